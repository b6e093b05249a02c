import copy
import unittest

import helper
from twobanks.errors import NoPoint
from twobanks.pairing import all_left, most_pairs


class JudgingTest(unittest.TestCase):
    def check_pairs(self, left, right, ropes, pairs):
        self.assertIsInstance(pairs, list)
        for pair in pairs:
            self.assertIsInstance(pair, tuple)
            self.assertEqual(len(pair), 2)
        self.assertEqual(pairs, sorted(pairs))
        self.assertTrue(helper.pairs_by_meaning(left, right, ropes, pairs))

    def check_lists(self, left, right, ones, others):
        self.assertIsInstance(ones, list)
        self.assertIsInstance(others, list)
        self.assertTrue(helper.lists_by_meaning(left, right, ones, others))

    def check_most(self, left, right, ropes):
        told = most_pairs(left, right, ropes)
        self.assertIsInstance(told, tuple)
        pairs, ones, others = told
        self.check_pairs(left, right, ropes, pairs)
        self.check_lists(left, right, ones, others)
        self.assertTrue(helper.cover_by_meaning(left, right, ropes, ones, others))
        self.assertEqual(len(ones) + len(others), len(pairs))
        return len(pairs)

    def check_all_left(self, left, right, ropes):
        told = all_left(left, right, ropes)
        self.assertIsInstance(told, tuple)
        if told[0] == "all":
            kind, pairs = told
            self.check_pairs(left, right, ropes, pairs)
            self.assertEqual([one for one, other in pairs], list(range(left)))
        else:
            kind, ones, others = told
            self.assertEqual(kind, "few")
            self.check_lists(left, right, ones, others)
            self.assertEqual(others, sorted({other for one, other in ropes if one in ones}))
            self.assertLess(len(others), len(ones))
        return kind


class MostPairsTest(JudgingTest):
    def test_many_banks_and_ropes(self):
        for left, right, ropes in helper.many_banks():
            with self.subTest(left=left, right=right, ropes=ropes):
                self.check_most(left, right, ropes)

    def test_how_many_where_it_is_known(self):
        self.assertEqual(self.check_most(0, 0, []), 0)
        self.assertEqual(self.check_most(7, 5, []), 0)
        self.assertEqual(self.check_most(1, 1, [(0, 0)] * 5), 1)
        self.assertEqual(self.check_most(3, 3, [(0, 1), (1, 1), (2, 1)]), 1)
        self.assertEqual(self.check_most(3, 3, [(0, 0), (0, 1), (1, 0), (2, 1), (2, 2)]), 3)
        self.assertEqual(self.check_most(100, 100, [(one, 99 - one) for one in range(100)]), 100)

    def test_long_rows(self):
        for size in (2, 5, 100, 1500):
            for turn in (lambda banks: banks, helper.turned):
                self.assertEqual(self.check_most(*turn(helper.long_row(size))), size)
                self.assertEqual(self.check_most(*turn(helper.pushed_on(size))), size)
                self.assertEqual(self.check_most(*turn(helper.long_row_without_end(size))), size - 1)

    def test_the_only_answers(self):
        self.assertEqual(most_pairs(0, 0, []), ([], [], []))
        self.assertEqual(most_pairs(3, 2, []), ([], [], []))
        self.assertEqual(most_pairs(3, 1, [(2, 0), (0, 0), (2, 0)])[1:], ([], [0]))
        self.assertEqual(most_pairs(1, 3, [(0, 2), (0, 0)])[1:], ([0], []))
        self.assertEqual(most_pairs(2, 2, [(1, 0), (0, 1), (1, 1)])[0], [(0, 1), (1, 0)])

    def test_somewhat_beyond_the_bounds(self):
        self.check_most(*helper.by_chance(3, 300, 250, 4000))
        self.check_all_left(*helper.by_chance(4, 300, 250, 4000))


class AllLeftTest(JudgingTest):
    def test_many_banks_and_ropes(self):
        seen = {"all": 0, "few": 0}
        for left, right, ropes in helper.many_banks():
            with self.subTest(left=left, right=right, ropes=ropes):
                seen[self.check_all_left(left, right, ropes)] += 1
        self.assertGreater(min(seen.values()), 100)

    def test_banks_without_points(self):
        self.assertEqual(all_left(0, 0, []), ("all", []))
        self.assertEqual(all_left(0, 5, []), ("all", []))
        self.assertEqual(self.check_all_left(4, 0, []), "few")
        self.assertEqual(all_left(1, 0, []), ("few", [0], []))

    def test_banks_without_ropes(self):
        self.assertEqual(all_left(1, 1, []), ("few", [0], []))
        self.assertEqual(self.check_all_left(3, 3, []), "few")

    def test_all(self):
        self.assertEqual(all_left(1, 3, [(0, 2)]), ("all", [(0, 2)]))
        self.assertEqual(all_left(2, 2, [(1, 0), (0, 0), (0, 1)]), ("all", [(0, 1), (1, 0)]))
        self.assertEqual(self.check_all_left(*helper.long_row(100)), "all")

    def test_few(self):
        self.assertEqual(all_left(2, 5, [(0, 3), (1, 3), (0, 3)]), ("few", [0, 1], [3]))
        self.assertEqual(all_left(3, 3, [(0, 2), (1, 0), (2, 0), (0, 1)]), ("few", [1, 2], [0]))
        self.assertEqual(all_left(2, 2, [(0, 0), (0, 1)]), ("few", [1], []))
        self.assertEqual(self.check_all_left(*helper.long_row_without_end(100)), "few")

    def test_few_though_the_right_bank_is_all_paired(self):
        ropes = [(one, other) for one in range(4) for other in range(3)]
        self.assertEqual(all_left(4, 3, ropes), ("few", [0, 1, 2, 3], [0, 1, 2]))


class RefusedAndUnchangedTest(unittest.TestCase):
    def test_no_point(self):
        for left, right in ((3, 3), (2, 4), (1, 1), (0, 2), (2, 0), (0, 0)):
            for ropes in helper.bad_ropes(left, right):
                for tell in (most_pairs, all_left):
                    with self.assertRaises(NoPoint):
                        tell(left, right, ropes)

    def test_the_banks_are_told_apart(self):
        for tell in (most_pairs, all_left):
            tell(1, 6, [(0, 5)])
            with self.assertRaises(NoPoint):
                tell(1, 6, [(5, 0)])
            with self.assertRaises(NoPoint):
                tell(6, 1, [(0, 5)])

    def test_nothing_handed_in_is_changed(self):
        for left, right, ropes in helper.many_banks():
            for handed in (ropes[::-1], ropes + [(0, right)], [(-1, 0)] + ropes):
                before = copy.deepcopy(handed)
                for tell in (most_pairs, all_left):
                    try:
                        tell(left, right, handed)
                    except NoPoint:
                        pass
                    self.assertEqual(handed, before)

    def test_an_answer_stays_as_it_was(self):
        banks = [(2, 2, [(0, 0), (1, 0)]), helper.long_row(5), helper.long_row_without_end(5)]
        for left, right, ropes in banks:
            for tell in (most_pairs, all_left):
                handed = list(ropes)
                told = tell(left, right, handed)
                before = copy.deepcopy(told)
                handed.clear()
                handed.append((0, 0))
                tell(left, right, handed)
                self.assertEqual(told, before)

    def test_who_changes_an_answer_changes_nothing_here(self):
        banks = [(0, 0, []), (2, 2, [(0, 0), (1, 0)]), helper.long_row(5), helper.long_row_without_end(5)]
        for left, right, ropes in banks:
            for tell in (most_pairs, all_left):
                handed = list(ropes)
                told = tell(left, right, handed)
                before = copy.deepcopy(told)
                for part in told:
                    if isinstance(part, list):
                        part.append((9, 9))
                self.assertEqual(handed, ropes)
                self.assertEqual(tell(left, right, handed), before)


if __name__ == "__main__":
    unittest.main()
