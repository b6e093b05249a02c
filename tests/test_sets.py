import itertools
import unittest

import helper
from twobanks.errors import Lonely, NoPoint
from twobanks.sets import fewest_ropes, most_apart


class MostApartTest(helper.Judging):
    def check_most_apart(self, left, right, ropes):
        told = most_apart(left, right, ropes)
        self.assertIs(type(told), tuple)
        ones, others, pairs = told
        self.check_apart(left, right, ropes, ones, others)
        self.check_pairs(left, right, ropes, pairs)
        self.assertEqual(len(ones) + len(others), left + right - len(pairs))
        return len(ones) + len(others)

    def test_many_banks_and_ropes(self):
        for left, right, ropes in helper.many_banks():
            with self.subTest(left=left, right=right, ropes=ropes):
                self.check_most_apart(left, right, ropes)

    def test_how_many_by_trying(self):
        for left, right, ropes in helper.all_small(3, 3):
            most = left + right - helper.most_by_trying(ropes)
            self.assertEqual(self.check_most_apart(left, right, ropes), most, ropes)

    def test_without_points_or_ropes(self):
        self.assertEqual(most_apart(0, 0, []), ([], [], []))
        self.assertEqual(most_apart(3, 0, []), ([0, 1, 2], [], []))
        self.assertEqual(most_apart(0, 2, []), ([], [0, 1], []))
        self.assertEqual(most_apart(2, 3, []), ([0, 1], [0, 1, 2], []))

    def test_the_only_answers(self):
        self.assertEqual(most_apart(3, 1, [(2, 0), (0, 0), (2, 0)])[:2], ([0, 1, 2], []))
        self.assertEqual(most_apart(1, 3, [(0, 2), (0, 0)])[:2], ([], [0, 1, 2]))
        self.assertEqual(most_apart(2, 3, [(0, 0), (0, 0), (0, 1)])[:2], ([1], [0, 1, 2]))

    def test_a_lonely_point_is_no_hindrance(self):
        self.assertEqual(self.check_most_apart(2, 2, [(1, 1)]), 3)

    def test_somewhat_beyond_the_bounds(self):
        self.check_most_apart(*helper.by_chance(5, 300, 250, 4000))


class FewestRopesTest(helper.Judging):
    def check_fewest(self, left, right, ropes):
        told = fewest_ropes(left, right, ropes)
        self.assertIs(type(told), tuple)
        places, ones, others = told
        self.assertIs(type(places), list)
        self.assertEqual(places, [place for place in range(len(ropes)) if place in places])
        chosen = [ropes[place] for place in places]
        self.assertFalse(helper.is_lonely(left, right, chosen))
        self.check_apart(left, right, ropes, ones, others)
        self.assertEqual(len(ones) + len(others), len(places))
        return len(places)

    def test_many_banks_and_ropes(self):
        seen = {True: 0, False: 0}
        for left, right, ropes in helper.many_banks():
            with self.subTest(left=left, right=right, ropes=ropes):
                lonely = helper.is_lonely(left, right, ropes)
                seen[lonely] += 1
                if lonely:
                    self.check_refused(Lonely, fewest_ropes, left, right, ropes)
                else:
                    self.check_fewest(left, right, ropes)
        self.assertGreater(min(seen.values()), 100)

    def test_how_many_by_trying(self):
        for left, right, ropes in helper.all_small(2, 3):
            if not helper.is_lonely(left, right, ropes):
                size = self.check_fewest(left, right, ropes)
                for fewer in itertools.combinations(ropes, size - 1):
                    self.assertTrue(helper.is_lonely(left, right, fewer), ropes)

    def test_without_points(self):
        self.assertEqual(fewest_ropes(0, 0, []), ([], [], []))
        for left, right in ((0, 1), (1, 0), (0, 5), (5, 0)):
            self.check_refused(Lonely, fewest_ropes, left, right, [])

    def test_the_only_answers(self):
        self.assertEqual(fewest_ropes(3, 1, [(1, 0), (0, 0), (2, 0)]), ([0, 1, 2], [0, 1, 2], []))
        self.assertEqual(fewest_ropes(1, 3, [(0, 1), (0, 0), (0, 2)]), ([0, 1, 2], [], [0, 1, 2]))
        self.assertEqual(fewest_ropes(2, 2, [(0, 1), (0, 0), (1, 1)])[0], [1, 2])
        self.assertEqual(self.check_fewest(4, 4, [(3, 0), (0, 0), (0, 1), (0, 2), (0, 3), (1, 0), (2, 0)]), 6)

    def test_ropes_that_stand_twice(self):
        self.assertEqual(self.check_fewest(1, 1, [(0, 0)] * 4), 1)
        self.assertEqual(self.check_fewest(2, 2, [(0, 0), (0, 0), (1, 1), (0, 1), (1, 1), (0, 1)]), 2)
        self.assertEqual(self.check_fewest(1, 2, [(0, 1), (0, 1), (0, 0), (0, 0)]), 2)
        for left, right, ropes in helper.banks_by_chance():
            if not helper.is_lonely(left, right, ropes):
                self.assertEqual(self.check_fewest(left, right, ropes * 2), self.check_fewest(left, right, ropes))

    def test_lonely_points(self):
        for left, right, ropes in helper.banks_by_chance():
            self.check_refused(Lonely, fewest_ropes, left + 1, right, ropes)
            self.check_refused(Lonely, fewest_ropes, left, right + 1, ropes)
            self.check_refused(Lonely, fewest_ropes, left + 1, right, [(one + 1, other) for one, other in ropes])
            self.check_refused(Lonely, fewest_ropes, left, right + 1, [(one, other + 1) for one, other in ropes])
        # As many points on either bank have a rope, but not the same ones.
        self.check_refused(Lonely, fewest_ropes, 3, 2, [(0, 0), (1, 1), (0, 1), (1, 0), (0, 0)])
        self.check_refused(Lonely, fewest_ropes, 2, 3, [(0, 0), (1, 1), (0, 1), (1, 0), (0, 0)])

    def test_no_point_ahead_of_lonely(self):
        for left, right in ((3, 3), (2, 4), (1, 1), (0, 2), (2, 0), (0, 0)):
            for ropes in helper.bad_ropes(left, right):
                self.check_refused(NoPoint, fewest_ropes, left, right, ropes)
        self.check_refused(NoPoint, fewest_ropes, 2, 2, [(0, 0), (1, 1), (2, 0)])

    def test_somewhat_beyond_the_bounds(self):
        left, right, ropes = helper.by_chance(6, 300, 250, 4000)
        self.check_fewest(left, right, ropes + [(one, one % right) for one in range(left)])


if __name__ == "__main__":
    unittest.main()
