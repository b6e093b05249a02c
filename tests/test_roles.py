import itertools
import unittest

import helper
from twobanks.errors import NoPoint, NoRope
from twobanks.roles import role_of


def role_by_meaning(left, right, ropes, rope):
    """Point 10, word by word: in how many of all largest pairings the rope's two points are a pair."""
    most = helper.most_by_trying(ropes)
    chosen = [pairs for pairs in itertools.combinations(sorted(set(ropes)), most)
              if helper.pairs_by_meaning(left, right, ropes, pairs)]
    among = [pairs for pairs in chosen if rope in pairs]
    if len(among) == len(chosen):
        return "always"
    return "some" if among else "never"


class RoleOfTest(helper.Judging):
    def check_role(self, left, right, ropes, number, most):
        told = role_of(left, right, ropes, number)
        self.assertIs(type(told), tuple)
        kind, first, second = told
        rope = ropes[number]
        if kind == "some":
            for pairs in (first, second):
                self.check_pairs(left, right, ropes, pairs)
                self.assertEqual(len(pairs), most)
            self.assertIn(rope, first)
            self.assertNotIn(rope, second)
        elif kind == "always":
            besides = [each for each in ropes if each != rope]
            self.check_cover(left, right, besides, first, second)
            self.assertLess(len(first) + len(second), most)
        else:
            self.assertEqual(kind, "never")
            away = [each for each in ropes if each[0] != rope[0] and each[1] != rope[1]]
            self.check_cover(left, right, away, first, second)
            self.assertLess(len(first) + len(second), most - 1)
        return kind

    def check_roles(self, left, right, ropes):
        most = helper.most_by_trying(ropes)
        return [self.check_role(left, right, ropes, number, most) for number in range(len(ropes))]

    def test_all_small_ones_by_their_meaning(self):
        seen = {"always": 0, "never": 0, "some": 0}
        for size in ((1, 1), (1, 3), (3, 1), (2, 3), (3, 2), (3, 3)):
            for left, right, ropes in helper.all_small(*size):
                for rope, kind in zip(ropes, self.check_roles(left, right, ropes)):
                    self.assertEqual(kind, role_by_meaning(left, right, ropes, rope), (ropes, rope))
                    seen[kind] += 1
        self.assertGreater(min(seen.values()), 100)

    def test_ropes_that_stand_twice(self):
        for left, right, ropes in helper.all_small(2, 3):
            kinds = self.check_roles(left, right, ropes)
            self.assertEqual(self.check_roles(left, right, ropes + ropes[::-1]), kinds + kinds[::-1])
        self.assertEqual(self.check_roles(1, 1, [(0, 0)] * 3), ["always"] * 3)
        self.assertEqual(self.check_roles(2, 1, [(0, 0), (1, 0), (0, 0)]), ["some"] * 3)

    def test_where_it_is_known(self):
        self.assertEqual(role_of(1, 1, [(0, 0)], 0), ("always", [], []))
        self.assertEqual(role_of(2, 1, [(0, 0), (1, 0)], 0), ("some", [(0, 0)], [(1, 0)]))
        self.assertEqual(role_of(2, 1, [(0, 0), (1, 0)], 1), ("some", [(1, 0)], [(0, 0)]))
        self.assertEqual(role_of(2, 2, [(0, 0), (0, 1), (1, 1)], 1), ("never", [], []))
        self.assertEqual(self.check_roles(2, 2, [(0, 0), (0, 1), (1, 1)]), ["always", "never", "always"])
        self.assertEqual(self.check_roles(3, 3, [(0, 0), (0, 1), (1, 0), (1, 1), (2, 2), (2, 1)]),
                         ["some", "some", "some", "some", "always", "never"])

    def test_long_rows(self):
        # The one pairing of the whole row takes the second rope of each point, and the last one's only rope.
        left, right, ropes = helper.long_row(100)
        kinds = [self.check_role(left, right, ropes, number, 100) for number in range(len(ropes))]
        self.assertEqual(kinds, ["never", "always"] * 99 + ["always"])
        left, right, ropes = helper.long_row_without_end(100)
        kinds = [self.check_role(left, right, ropes, number, 99) for number in range(len(ropes))]
        self.assertEqual(set(kinds), {"some"})

    def test_at_the_bounds(self):
        seen = {"always": 0, "never": 0, "some": 0}
        banks = [helper.by_chance(1, 100, 100, 200), helper.by_chance(2, 100, 60, 150),
                 helper.by_chance(3, 100, 100, 1200), helper.crowded(4, 100, 30, 1200), helper.crowded(5, 100, 30, 300)]
        for left, right, ropes in banks:
            most = helper.most_by_search(left, ropes)
            for number in range(0, len(ropes), 7):
                seen[self.check_role(left, right, ropes, number, most)] += 1
        self.assertGreater(min(seen.values()), 5)

    def test_the_first_place_and_the_last(self):
        for left, right, ropes in helper.banks_by_chance():
            if ropes:
                most = helper.most_by_search(left, ropes)
                self.check_role(left, right, ropes, 0, most)
                self.check_role(left, right, ropes, len(ropes) - 1, most)

    def test_somewhat_beyond_the_bounds(self):
        left, right, ropes = helper.by_chance(6, 300, 250, 4000)
        self.check_role(left, right, ropes, 3999, helper.most_by_search(left, ropes))


class RefusedTest(helper.Judging):
    def test_no_rope(self):
        banks = [(3, 3, [(0, 0), (1, 1), (1, 1)]), (1, 1, [(0, 0)]), (2, 2, []), (0, 0, []), (0, 3, []), (3, 0, [])]
        for left, right, ropes in banks:
            many = len(ropes)
            for number in (-1, -many, -many - 1, many, many + 1, helper.BEYOND_ALL, -helper.BEYOND_ALL):
                if not 0 <= number < many:
                    self.check_refused(NoRope, role_of, left, right, ropes, number)

    def test_no_point_ahead_of_no_rope(self):
        for left, right in ((3, 3), (2, 4), (1, 1), (0, 2), (2, 0), (0, 0)):
            for ropes in helper.bad_ropes(left, right):
                for number in (0, -1, len(ropes) - 1, len(ropes), helper.BEYOND_ALL):
                    self.check_refused(NoPoint, role_of, left, right, ropes, number)


if __name__ == "__main__":
    unittest.main()
