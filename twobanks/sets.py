"""The most points apart, and the fewest ropes that touch all points."""

from twobanks.banks import points_besides
from twobanks.errors import Lonely
from twobanks.pairing import most_pairs


def most_apart(left, right, ropes):
    """A tuple of the two lists of the most points apart and of the pairs that rule out more."""
    told = most_pairs(left, right, ropes)
    return (points_besides(left, told[1]), points_besides(right, told[2]), told[0])


def check_none_lonely(left, right, ropes):
    """Refuse banks of which some point has no rope."""
    if len(set([one for one, other in ropes])) < left:
        raise Lonely("a point of the left bank has no rope")
    if len(set([other for one, other in ropes])) < right:
        raise Lonely("a point of the right bank has no rope")


def places_that_touch_all(ropes, pairs):
    """The places of a rope for each pair of a largest pairing and of one for each unpaired point."""
    places = [ropes.index(pair) for pair in pairs]
    touched_ones = dict([(one, True) for one, other in pairs])
    touched_others = dict([(other, True) for one, other in pairs])
    # No rope joins two unpaired points, else there could be one pair more. So each rope that is
    # taken here stands for one unpaired point; with the pairs' ropes this makes as many as there
    # are points in all, less as many as pairs, and so many are the points apart.
    for place, rope in enumerate(ropes):
        if rope[0] not in touched_ones or rope[1] not in touched_others:
            places.append(place)
            touched_ones[rope[0]] = True
            touched_others[rope[1]] = True
    return sorted(places)


def fewest_ropes(left, right, ropes):
    """A tuple of the places of the fewest ropes that touch all points and the two lists of as many points apart."""
    told = most_apart(left, right, ropes)
    check_none_lonely(left, right, ropes)
    return (places_that_touch_all(ropes, told[2]), told[0], told[1])
