"""Banks, points and ropes; what pairs, covers and points apart are."""

from twobanks.errors import NoPoint


def is_point(bank, number):
    """True where the number is a point's of a bank with so many points."""
    return 0 <= number < bank


def check_ropes(left, right, ropes):
    """Refuse ropes with a number that is no point's of its bank."""
    # The words leave the number out: Python won't write out one of some thousand digits.
    for one, other in ropes:
        if not is_point(left, one):
            raise NoPoint("a rope has a number that is no point's of the left bank")
        if not is_point(right, other):
            raise NoPoint("a rope has a number that is no point's of the right bank")


def points_besides(bank, points):
    """All other points of the bank, from the least to the greatest."""
    return [point for point in range(bank) if point not in points]


def are_rising_points(bank, numbers):
    """True where the numbers are points of the bank, from the least to the greatest, each once."""
    least = 0
    for number in numbers:
        if number < least or not is_point(bank, number):
            return False
        least = number + 1
    return True


def are_two_lists(left, right, ones, others):
    """True where the lists have the form that covers and points apart are told in."""
    return are_rising_points(left, ones) and are_rising_points(right, others)


def are_pairs(left, right, ropes, pairs):
    """True where each pair is joined by a rope and no point stands in two of them."""
    check_ropes(left, right, ropes)
    joined = dict([((one, other), True) for one, other in ropes])
    used_ones = {}
    used_others = {}
    for one, other in pairs:
        if (one, other) not in joined or one in used_ones or other in used_others:
            return False
        used_ones[one] = True
        used_others[other] = True
    return True


def is_cover(left, right, ropes, ones, others):
    """True where the two lists are points such that every rope has one of its points in them."""
    check_ropes(left, right, ropes)
    if not are_two_lists(left, right, ones, others):
        return False
    return all([one in ones or other in others for one, other in ropes])


def is_apart(left, right, ropes, ones, others):
    """True where the two lists are points of which no two are joined."""
    check_ropes(left, right, ropes)
    if not are_two_lists(left, right, ones, others):
        return False
    return not any([one in ones and other in others for one, other in ropes])
