import copy
import itertools
import random
import unittest

import helper
from twobanks.banks import are_pairs, is_apart, is_cover
from twobanks.errors import NoPoint

ROPES = [(0, 0), (0, 1), (1, 1), (2, 1), (2, 2), (0, 1)]


def sublists(bank):
    for size in range(bank + 1):
        for chosen in itertools.combinations(range(bank), size):
            yield list(chosen)


def rest(bank, points):
    return [point for point in range(bank) if point not in points]


class ArePairsTest(unittest.TestCase):
    def judge(self, pairs):
        answer = are_pairs(3, 4, ROPES, pairs)
        self.assertIn(answer, (True, False))
        self.assertIsInstance(answer, bool)
        return answer

    def test_pairs_along_ropes_in_any_order(self):
        for pairs in itertools.permutations([(0, 0), (1, 1), (2, 2)]):
            self.assertTrue(self.judge(list(pairs)))
        for rope in ROPES:
            self.assertTrue(self.judge([rope]))

    def test_none_at_all(self):
        self.assertTrue(self.judge([]))
        self.assertTrue(are_pairs(0, 0, [], []))
        self.assertTrue(are_pairs(3, 3, [], []))

    def test_one_twice(self):
        self.assertFalse(self.judge([(0, 0), (0, 0)]))
        self.assertFalse(self.judge([(0, 1), (2, 2), (0, 1)]))

    def test_a_point_in_two(self):
        self.assertFalse(self.judge([(0, 0), (0, 1)]))
        self.assertFalse(self.judge([(0, 1), (1, 1)]))
        self.assertFalse(self.judge([(2, 1), (0, 0), (1, 1)]))

    def test_the_same_number_on_both_banks_is_two_points(self):
        self.assertTrue(are_pairs(2, 2, [(0, 1), (1, 0)], [(0, 1), (1, 0)]))
        self.assertTrue(are_pairs(2, 2, [(0, 0), (1, 1)], [(0, 0), (1, 1)]))

    def test_no_rope(self):
        self.assertFalse(self.judge([(1, 0)]))
        self.assertFalse(self.judge([(0, 0), (1, 2)]))
        self.assertFalse(self.judge([(0, 3)]))
        self.assertFalse(are_pairs(1, 1, [], [(0, 0)]))

    def test_turned_about(self):
        self.assertFalse(self.judge([(1, 0), (2, 2)]))
        self.assertFalse(self.judge([(1, 2)]))

    def test_numbers_that_are_no_points(self):
        for number in (-1, -3, -4, 3, 4, 5, helper.BEYOND_ALL, -helper.BEYOND_ALL):
            for point in range(3):
                self.assertFalse(self.judge([(number, point)]))
                self.assertFalse(self.judge([(0, 0), (number, point)]))
        for number in (-1, -4, 4, 5, helper.BEYOND_ALL, -helper.BEYOND_ALL):
            for point in range(3):
                self.assertFalse(self.judge([(point, number)]))
                self.assertFalse(self.judge([(point, number), (0, 0)]))
        self.assertFalse(self.judge([(-1, -1)]))
        self.assertFalse(are_pairs(0, 0, [], [(0, 0)]))

    def test_all_small_ones_by_their_meaning(self):
        for left, right, ropes in helper.all_small(2, 3):
            places = list(itertools.product(range(left), range(right)))
            for size in range(4):
                for pairs in itertools.product(places, repeat=size):
                    pairs = list(pairs)
                    wanted = helper.pairs_by_meaning(left, right, ropes, pairs)
                    self.assertEqual(are_pairs(left, right, ropes, pairs), wanted, (ropes, pairs))


class CoverAndApartTest(unittest.TestCase):
    def test_ordinary_covers(self):
        self.assertIs(is_cover(3, 4, ROPES, [0, 2], [1]), True)
        self.assertIs(is_cover(3, 4, ROPES, [0, 1, 2], []), True)
        self.assertIs(is_cover(3, 4, ROPES, [], [0, 1, 2]), True)
        self.assertIs(is_cover(3, 4, ROPES, [0, 1, 2], [0, 1, 2, 3]), True)
        self.assertIs(is_cover(3, 4, ROPES, [0], [1]), False)
        self.assertIs(is_cover(3, 4, ROPES, [1, 2], [1, 2]), False)
        self.assertIs(is_cover(3, 4, ROPES, [], []), False)

    def test_ordinary_points_apart(self):
        self.assertIs(is_apart(3, 4, ROPES, [1], [0, 2, 3]), True)
        self.assertIs(is_apart(3, 4, ROPES, [0, 1, 2], [3]), True)
        self.assertIs(is_apart(3, 4, ROPES, [], [0, 1, 2, 3]), True)
        self.assertIs(is_apart(3, 4, ROPES, [], []), True)
        self.assertIs(is_apart(3, 4, ROPES, [0], [0]), False)
        self.assertIs(is_apart(3, 4, ROPES, [1, 2], [2, 3]), False)
        self.assertIs(is_apart(3, 4, ROPES, [0, 1, 2], [0, 1, 2, 3]), False)

    def test_without_ropes_or_points(self):
        for judge in (is_cover, is_apart):
            self.assertIs(judge(0, 0, [], [], []), True)
            self.assertIs(judge(2, 2, [], [], []), True)
            self.assertIs(judge(2, 2, [], [0, 1], [0, 1]), True)
            self.assertIs(judge(0, 0, [], [0], []), False)
            self.assertIs(judge(0, 0, [], [], [0]), False)

    def check_refused_lists(self, judge, ones, others, bad_ones, bad_others):
        self.assertIs(judge(3, 4, ROPES, ones, others), True)
        for bad in bad_ones:
            self.assertIs(judge(3, 4, ROPES, bad, others), False, bad)
        for bad in bad_others:
            self.assertIs(judge(3, 4, ROPES, ones, bad), False, bad)

    def test_a_point_twice(self):
        twice = [[1, 1], [1, 3, 3], [1, 3, 1]]
        self.check_refused_lists(is_cover, [0, 2], [1, 3], [[0, 0, 2], [0, 2, 2], [0, 2, 0]], twice)
        self.check_refused_lists(is_apart, [1], [0, 2, 3], [[1, 1]], [[0, 0, 2, 3], [0, 2, 2, 3], [0, 2, 3, 0]])

    def test_not_from_the_least_to_the_greatest(self):
        self.check_refused_lists(is_cover, [0, 2], [1, 3], [[2, 0], [1, 0, 2], [0, 2, 1]], [[3, 1], [2, 1, 3]])
        self.check_refused_lists(is_apart, [0, 1], [2, 3], [[1, 0]], [[3, 2]])

    def test_numbers_that_are_no_points(self):
        huge = helper.BEYOND_ALL
        no_ones = [[-1, 0, 2], [0, 2, -1], [0, 2, 3], [0, 2, 4], [0, 2, huge], [-huge, 0, 2]]
        no_others = [[-1, 1], [1, -1], [1, 4], [1, 5], [1, huge], [-huge, 1]]
        self.check_refused_lists(is_cover, [0, 2], [1], no_ones, no_others)
        no_ones = [[-1, 1], [-1], [3], [1, 3], [1, 4], [1, huge], [-huge]]
        no_others = [[-1, 0, 2], [-1], [4], [0, 4], [0, 5], [huge], [-huge, 0]]
        self.check_refused_lists(is_apart, [1], [0], no_ones, no_others)

    def test_all_small_ones_by_their_meaning(self):
        for left, right, ropes in helper.all_small(3, 2):
            for ones, others in itertools.product(sublists(left), sublists(right)):
                told = (ropes, ones, others)
                wanted = helper.cover_by_meaning(left, right, ropes, ones, others)
                self.assertIs(is_cover(left, right, ropes, ones, others), wanted, told)
                wanted = helper.apart_by_meaning(left, right, ropes, ones, others)
                self.assertIs(is_apart(left, right, ropes, ones, others), wanted, told)

    def test_what_is_not_in_a_cover_is_apart_and_the_other_way_round(self):
        chance = random.Random(7)
        seen = {True: 0, False: 0}
        for left, right, ropes in helper.banks_by_chance():
            covered = chance.randrange(2) == 0
            ones = [one for one in range(left) if chance.randrange(2) == 0]
            touched = [rope[1] for rope in ropes if rope[0] not in ones]
            others = [other for other in range(right) if (covered and other in touched) or chance.randrange(4) == 0]
            answer = is_cover(left, right, ropes, ones, others)
            self.assertIs(is_apart(left, right, ropes, rest(left, ones), rest(right, others)), answer)
            self.assertIs(answer, helper.cover_by_meaning(left, right, ropes, ones, others))
            seen[answer] += 1
        self.assertGreater(min(seen.values()), 20)


class RefusedAndUnchangedTest(helper.Judging):
    def test_no_point_ahead_of_anything_else(self):
        for left, right in ((3, 3), (2, 4), (1, 1), (0, 2), (2, 0), (0, 0)):
            for ropes in helper.bad_ropes(left, right):
                for pairs in ([], [(0, 0)], [(0, 0), (0, 0)], [(-1, 7)], list(ropes)):
                    self.check_refused(NoPoint, are_pairs, left, right, ropes, pairs)
                for ones, others in (([], []), ([0], [0]), ([1, 0], []), ([], [0, 0]), ([-1], [9])):
                    self.check_refused(NoPoint, is_cover, left, right, ropes, ones, others)
                    self.check_refused(NoPoint, is_apart, left, right, ropes, ones, others)

    def test_the_banks_are_told_apart(self):
        for judge, told in ((are_pairs, ([],)), (is_cover, ([0], [])), (is_apart, ([], []))):
            self.assertIs(judge(1, 6, [(0, 5)], *told), True)
            self.check_refused(NoPoint, judge, 1, 6, [(5, 0)], *told)
            self.check_refused(NoPoint, judge, 6, 1, [(0, 5)], *told)

    def check_unchanged(self, judge, *told):
        before = copy.deepcopy(told)
        try:
            judge(*told)
        except NoPoint:
            pass
        self.assertEqual(told, before)

    def test_nothing_handed_in_is_changed(self):
        for ropes in (ROPES, ROPES[::-1], ROPES + [(3, 0)], [(0, -1)] + ROPES):
            for pairs in ([(2, 2), (0, 0)], [(2, 2), (0, 0), (2, 1)], [(9, 9), (0, 0)]):
                self.check_unchanged(are_pairs, 3, 4, list(ropes), pairs)
            for ones, others in (([0, 2], [1]), ([2, 0], [1, 1]), ([-1, 7], [3, 0]), ([], [])):
                self.check_unchanged(is_cover, 3, 4, list(ropes), list(ones), list(others))
                self.check_unchanged(is_apart, 3, 4, list(ropes), list(ones), list(others))

    def test_nothing_handed_in_is_kept(self):
        ropes, pairs, ones, others = [(0, 0), (1, 1)], [(0, 0)], [0, 1], []
        self.assertTrue(are_pairs(2, 2, ropes, pairs))
        self.assertTrue(is_cover(2, 2, ropes, ones, others))
        self.assertFalse(is_apart(2, 2, ropes, ones, [0]))
        ropes.clear()
        ones.clear()
        self.assertFalse(are_pairs(2, 2, ropes, pairs))
        self.assertTrue(is_cover(2, 2, ropes, ones, others))
        self.assertTrue(is_apart(2, 2, ropes, ones, [0]))
        ropes.append((1, 0))
        self.assertFalse(is_cover(2, 2, ropes, ones, others))
        self.assertTrue(are_pairs(2, 2, ropes, [(1, 0)]))


if __name__ == "__main__":
    unittest.main()
