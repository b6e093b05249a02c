"""Banks, ropes and deeds to test with, and judges of what the program tells."""

import itertools
import random
import unittest

from twobanks.banks import are_pairs, is_apart, is_cover
from twobanks.errors import BankError

BEYOND_ALL = 10 ** 5000


def all_small(left, right):
    """Every choice of ropes between so many points, no two alike."""
    places = list(itertools.product(range(left), range(right)))
    for size in range(len(places) + 1):
        for ropes in itertools.combinations(places, size):
            yield left, right, list(ropes)


def long_row(size):
    """Ropes where the last left point takes the first right one and all others have to move on."""
    ropes = []
    for one in range(size - 1):
        ropes.append((one, one))
        ropes.append((one, one + 1))
    ropes.append((size - 1, 0))
    return size, size, ropes


def long_row_without_end(size):
    """The same row without its last right point: the last search goes all along it in vain."""
    left, right, ropes = long_row(size)
    return left, right - 1, [rope for rope in ropes if rope[1] < right - 1]


def pushed_on(size):
    """Each left point that comes pushes the first one on to another right point."""
    return size, size, [(0, other) for other in range(size)] + [(one, one - 1) for one in range(1, size)]


def turned(banks):
    """The banks with all points counted from the other end."""
    left, right, ropes = banks
    return left, right, [(left - 1 - one, right - 1 - other) for one, other in ropes]


def by_chance(seed, left, right, many):
    """As many ropes, some of them between the same two points, the same for each seed."""
    chance = random.Random(seed)
    return left, right, [(chance.randrange(left), chance.randrange(right)) for rope in range(many)]


def crowded(seed, size, narrow, many):
    """Most ropes lead to a few points of the right bank."""
    chance = random.Random(seed)
    ropes = []
    for rope in range(many):
        wide = chance.randrange(10) == 0
        ropes.append((chance.randrange(size), chance.randrange(size if wide else narrow)))
    return size, size, ropes


def named_banks():
    """Edges and rows, each for a reason of its own."""
    yield 0, 0, []
    yield 0, 4, []
    yield 4, 0, []
    yield 5, 3, []
    yield 1, 1, [(0, 0)]
    yield 1, 1, [(0, 0), (0, 0), (0, 0)]
    yield 2, 2, [(1, 0), (0, 0), (1, 0), (0, 0)]
    yield 3, 3, [(0, 1), (1, 1), (2, 1)]
    yield 3, 3, [(1, 0), (1, 1), (1, 2)]
    yield 100, 100, [(one, one) for one in range(100)]
    yield 100, 1, [(one, 0) for one in range(100)]
    yield 1, 100, [(0, other) for other in range(100)]
    yield 34, 35, list(itertools.product(range(34), range(35)))
    for size in (2, 3, 10, 99, 100):
        for row in (long_row, long_row_without_end, pushed_on):
            yield row(size)
            yield turned(row(size))
    yield long_row(1500)


def banks_by_chance():
    """Many banks and ropes up to the bounds, sparse and dense."""
    for seed in range(150):
        chance = random.Random(1000 + seed)
        left, right = chance.randrange(1, 13), chance.randrange(1, 13)
        yield by_chance(seed, left, right, chance.randrange(0, 40))
    for seed, many in enumerate((50, 100, 120, 150, 200, 300, 600, 1200)):
        yield by_chance(seed, 100, 100, many)
        yield by_chance(seed, 100, 60, many)
        yield by_chance(seed, 60, 100, many)
        yield crowded(seed, 100, 30, many)


def many_banks():
    """All the banks and ropes above."""
    yield from named_banks()
    for left, right in ((1, 2), (2, 1), (2, 2), (2, 3), (3, 2), (3, 3)):
        yield from all_small(left, right)
    yield from banks_by_chance()


def bad_ropes(left, right):
    """Ropes with one number that is no point's, and ropes that are fine around it."""
    fine = [(0, 0)] if left > 0 and right > 0 else []
    numbers = ((-1, "left"), (left, "left"), (-BEYOND_ALL, "left"), (BEYOND_ALL, "left"),
               (-1, "right"), (right, "right"), (-BEYOND_ALL, "right"), (BEYOND_ALL, "right"))
    for number, bank in numbers:
        bad = (number, 0) if bank == "left" else (0, number)
        yield [bad] + fine
        yield fine + [bad]
        yield fine + [bad] + fine


def pairs_by_meaning(left, right, ropes, pairs):
    """Point 4, word by word."""
    points = [("left", one) for one, other in pairs] + [("right", other) for one, other in pairs]
    return all(pair in ropes for pair in pairs) and len(set(points)) == len(points)


def lists_by_meaning(left, right, ones, others):
    """The form of the lists of points 5 and 6."""
    return (ones == [one for one in range(left) if one in ones]
            and others == [other for other in range(right) if other in others])


def cover_by_meaning(left, right, ropes, ones, others):
    """Point 5, word by word."""
    touched = [rope for rope in ropes if rope[0] in ones or rope[1] in others]
    return lists_by_meaning(left, right, ones, others) and touched == ropes


def apart_by_meaning(left, right, ropes, ones, others):
    """Point 6, word by word."""
    joined = [pair for pair in itertools.product(ones, others) if pair in ropes]
    return lists_by_meaning(left, right, ones, others) and joined == []


def most_by_trying(ropes):
    """How many pairs can be made, by trying: the first rope's left point is left alone or paired each way."""
    if ropes == []:
        return 0
    one = ropes[0][0]
    away = [rope for rope in ropes if rope[0] != one]
    most = most_by_trying(away)
    for other in {rope[1] for rope in ropes if rope[0] == one}:
        most = max(most, 1 + most_by_trying([rope for rope in away if rope[1] != other]))
    return most


def most_by_search(left, ropes):
    """How many pairs can be made, for banks that are too great to try all ways."""
    taken = {}

    def place(one, seen):
        for each, other in ropes:
            if each == one and other not in seen:
                seen.add(other)
                if other not in taken or place(taken[other], seen):
                    taken[other] = one
                    return True
        return False

    return sum(place(one, set()) for one in range(left))


def is_lonely(left, right, ropes):
    """Whether some point has no rope."""
    return ({one for one, other in ropes} != set(range(left))
            or {other for one, other in ropes} != set(range(right)))


def deeds_by_chance(seed, left, right, many):
    """As many deeds, most of them between points of the banks, the same for each seed.

    Ties and loosenings come in spells, so that there are many ropes at some times and few at others.
    """
    chance = random.Random(seed)
    deeds = []
    while len(deeds) < many:
        ties = chance.randrange(1, 10)
        for turn in range(chance.randrange(1, 60)):
            one, other = chance.randrange(left), chance.randrange(right)
            if chance.randrange(30) == 0:
                one, other = chance.choice(((-1, other), (left, other), (one, -1), (one, right), (left, right)))
            word = "tie" if chance.randrange(10) < ties else "loosen"
            deeds.append(("look",) if chance.randrange(8) == 0 else (word, one, other))
    return deeds[:many]


class Judging(unittest.TestCase):
    """What every telling of pairs, covers, points apart and refusals has to keep to."""

    def check_pairs(self, left, right, ropes, pairs):
        self.assertIs(type(pairs), list)
        for pair in pairs:
            self.assertIs(type(pair), tuple)
            self.assertEqual(len(pair), 2)
        self.assertEqual(pairs, sorted(pairs))
        self.assertTrue(pairs_by_meaning(left, right, ropes, pairs))
        self.assertIs(are_pairs(left, right, ropes, pairs), True)

    def check_lists(self, left, right, ones, others):
        self.assertIs(type(ones), list)
        self.assertIs(type(others), list)
        self.assertTrue(lists_by_meaning(left, right, ones, others))

    def check_cover(self, left, right, ropes, ones, others):
        self.check_lists(left, right, ones, others)
        self.assertTrue(cover_by_meaning(left, right, ropes, ones, others))
        self.assertIs(is_cover(left, right, ropes, ones, others), True)

    def check_apart(self, left, right, ropes, ones, others):
        self.check_lists(left, right, ones, others)
        self.assertTrue(apart_by_meaning(left, right, ropes, ones, others))
        self.assertIs(is_apart(left, right, ropes, ones, others), True)

    def check_largest(self, left, right, ropes, told):
        """A tuple of pairs and a cover with as many points, so that there can't be more pairs."""
        self.assertIs(type(told), tuple)
        pairs, ones, others = told
        self.check_pairs(left, right, ropes, pairs)
        self.check_cover(left, right, ropes, ones, others)
        self.assertEqual(len(ones) + len(others), len(pairs))
        return len(pairs)

    def check_refused(self, error, call, *handed):
        with self.assertRaises(BankError) as caught:
            call(*handed)
        self.assertIs(type(caught.exception), error)
