"""The most pairs, with a cover that shows it; and whether the whole left bank can be paired."""

from twobanks.banks import check_ropes, points_besides


def neighbours_of_left(left, ropes):
    """For each point of the left bank the list of its neighbours, each once."""
    found = [{} for one in range(left)]
    for one, other in ropes:
        found[one][other] = True
    return [sorted(near) for near in found]


def reach(neighbours, starts, left_of):
    """A tuple of the right points that are reached from the starts, and of the first unpaired one or None.

    A way goes to the right along any rope, and back to the left from a pair's one point to its
    other. The starts stand in no pair; left_of tells each paired right point its left one. Each
    point that is reached is told with the left point it is reached from.
    """
    reached_from = {}
    waiting = list(starts)
    place = 0
    while place < len(waiting):
        one = waiting[place]
        place += 1
        for other in neighbours[one]:
            if other not in reached_from:
                reached_from[other] = one
                if other not in left_of:
                    return (reached_from, other)
                waiting.append(left_of[other])
    return (reached_from, None)


def change_pairs(right_of, left_of, reached_from, end):
    """Pair the points anew along the way that ends in the unpaired point: one pair more."""
    other = end
    while other is not None:
        one = reached_from[other]
        former = right_of.get(one)
        right_of[one] = other
        left_of[other] = one
        other = former


def pair_once_more(neighbours, starts, right_of, left_of):
    """Pair the points anew with one pair more, where a way from the starts allows it."""
    found = reach(neighbours, starts, left_of)
    if found[1] is not None:
        change_pairs(right_of, left_of, found[0], found[1])


def largest_pairing(neighbours):
    """As many pairs as can be, from the least point of the left bank to the greatest."""
    right_of = {}
    left_of = {}
    for start in range(len(neighbours)):
        pair_once_more(neighbours, [start], right_of, left_of)
    return sorted(right_of.items())


def cover_by_pairs(neighbours, pairs):
    """The two lists of a cover with one point of each pair of a largest pairing."""
    right_of = dict(pairs)
    left_of = dict([(other, one) for one, other in pairs])
    unpaired = points_besides(len(neighbours), right_of)
    # No unpaired right point is reached, else there could be one pair more. And a rope from a
    # left point that is reached leads to a right point that is reached, so this covers it.
    reached_from = reach(neighbours, unpaired, left_of)[0]
    ones = [one for one, other in pairs if other not in reached_from]
    return (ones, sorted(reached_from))


def most_pairs(left, right, ropes):
    """A tuple of the most pairs and the two lists of a cover with as many points as pairs."""
    check_ropes(left, right, ropes)
    neighbours = neighbours_of_left(left, ropes)
    pairs = largest_pairing(neighbours)
    cover = cover_by_pairs(neighbours, pairs)
    return (pairs, cover[0], cover[1])


def all_left(left, right, ropes):
    """Either ("all", pairs) with the whole left bank, or ("few", ones, others) that rule it out."""
    told = most_pairs(left, right, ropes)
    pairs = told[0]
    if len(pairs) == left:
        return ("all", pairs)
    # The cover has fewer points than the left bank. Left points outside it have all their
    # neighbours in its right list, which is therefore shorter than they are many.
    covered = told[1]
    ones = points_besides(left, covered)
    others = sorted(set([other for one, other in ropes if one not in covered]))
    return ("few", ones, others)
