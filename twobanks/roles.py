"""What a rope is for: whether its two points are a pair in every largest pairing, in none, or in some."""

from twobanks.errors import NoRope
from twobanks.pairing import most_pairs


def ropes_besides(ropes, rope):
    """All ropes that don't join the same two points as this one."""
    return [each for each in ropes if each != rope]


def ropes_away_from(ropes, rope):
    """All ropes that touch neither of this one's two points."""
    return [each for each in ropes if each[0] != rope[0] and each[1] != rope[1]]


def role_of(left, right, ropes, number):
    """("always", ones, others), ("never", ones, others) or ("some", with_it, without_it), as point 10 tells."""
    most = len(most_pairs(left, right, ropes)[0])
    if not 0 <= number < len(ropes):
        raise NoRope("no rope has that place")
    rope = ropes[number]
    besides = most_pairs(left, right, ropes_besides(ropes, rope))
    if len(besides[0]) < most:
        return ("always", besides[1], besides[2])
    away = most_pairs(left, right, ropes_away_from(ropes, rope))
    if len(away[0]) < most - 1:
        return ("never", away[1], away[2])
    return ("some", sorted(away[0] + [rope]), besides[0])
