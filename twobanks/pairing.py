"""The most pairs, with a cover that shows it; and whether the whole left bank can be paired."""

from twobanks.banks import check_ropes


def neighbours_of_left(left, ropes):
    """For each point of the left bank the list of its neighbours, each once."""
    found = [{} for one in range(left)]
    for one, other in ropes:
        found[one][other] = True
    return [sorted(near) for near in found]


def reach(neighbours, starts, left_of):
    """Each point of the right bank that is reached from the starts, with the point it is reached from.

    A way goes to the right along any rope, and back to the left from a pair's one point to its
    other. The starts stand in no pair; left_of tells each paired right point its left one.
    """
    reached_from = {}
    waiting = list(starts)
    place = 0
    while place < len(waiting):
        one = waiting[place]
        place += 1
        for other in neighbours[one]:
            if other not in reached_from:
                reached_from[other] = one
                if other in left_of:
                    waiting.append(left_of[other])
    return reached_from


def change_pairs(right_of, left_of, reached_from, end):
    """Pair the points anew along the way that ends in the unpaired point: one pair more."""
    other = end
    while other is not None:
        one = reached_from[other]
        former = right_of.get(one)
        right_of[one] = other
        left_of[other] = one
        other = former


def largest_pairing(neighbours):
    """As many pairs as can be, from the least point of the left bank to the greatest."""
    right_of = {}
    left_of = {}
    for start in range(len(neighbours)):
        reached_from = reach(neighbours, [start], left_of)
        ends = [other for other in reached_from if other not in left_of]
        if len(ends) > 0:
            change_pairs(right_of, left_of, reached_from, ends[0])
    return sorted(right_of.items())


def cover_by_pairs(neighbours, pairs):
    """The two lists of a cover with one point of each pair of a largest pairing."""
    right_of = dict(pairs)
    left_of = dict([(other, one) for one, other in pairs])
    unpaired = [one for one in range(len(neighbours)) if one not in right_of]
    # No unpaired right point is reached, else there could be one pair more. And a rope from a
    # left point that is reached leads to a right point that is reached, so this covers it.
    reached_from = reach(neighbours, unpaired, left_of)
    ones = [one for one, other in pairs if other not in reached_from]
    return (ones, sorted(reached_from))


def most_pairs(left, right, ropes):
    """A tuple of the most pairs and the two lists of a cover with as many points as pairs."""
    check_ropes(left, right, ropes)
    neighbours = neighbours_of_left(left, ropes)
    pairs = largest_pairing(neighbours)
    cover = cover_by_pairs(neighbours, pairs)
    return (pairs, cover[0], cover[1])


def all_left(left, right, ropes):
    """Either ("all", pairs) with the whole left bank, or ("few", ones, others) that rule it out."""
    told = most_pairs(left, right, ropes)
    pairs = told[0]
    if len(pairs) == left:
        return ("all", pairs)
    # The cover has fewer points than the left bank. Left points outside it have all their
    # neighbours in its right list, which is therefore shorter than they are many.
    covered = told[1]
    ones = [one for one in range(left) if one not in covered]
    others = sorted(set([other for one, other in ropes if one not in covered]))
    return ("few", ones, others)
