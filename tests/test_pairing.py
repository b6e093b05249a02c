import unittest

import helper
from twobanks.pairing import all_left, most_pairs


class JudgingTest(helper.Judging):
    def check_most(self, left, right, ropes):
        return self.check_largest(left, right, ropes, most_pairs(left, right, ropes))

    def check_all_left(self, left, right, ropes):
        told = all_left(left, right, ropes)
        self.assertIs(type(told), tuple)
        if told[0] == "all":
            kind, pairs = told
            self.check_pairs(left, right, ropes, pairs)
            self.assertEqual([one for one, other in pairs], list(range(left)))
        else:
            kind, ones, others = told
            self.assertEqual(kind, "few")
            self.check_lists(left, right, ones, others)
            self.assertEqual(others, sorted({other for one, other in ropes if one in ones}))
            self.assertLess(len(others), len(ones))
        return kind


class MostPairsTest(JudgingTest):
    def test_many_banks_and_ropes(self):
        for left, right, ropes in helper.many_banks():
            with self.subTest(left=left, right=right, ropes=ropes):
                self.check_most(left, right, ropes)

    def test_how_many_by_trying(self):
        for left, right, ropes in helper.all_small(3, 3):
            self.assertEqual(self.check_most(left, right, ropes), helper.most_by_trying(ropes), ropes)

    def test_how_many_where_it_is_known(self):
        self.assertEqual(self.check_most(0, 0, []), 0)
        self.assertEqual(self.check_most(7, 5, []), 0)
        self.assertEqual(self.check_most(1, 1, [(0, 0)] * 5), 1)
        self.assertEqual(self.check_most(3, 3, [(0, 1), (1, 1), (2, 1)]), 1)
        self.assertEqual(self.check_most(3, 3, [(0, 0), (0, 1), (1, 0), (2, 1), (2, 2)]), 3)
        self.assertEqual(self.check_most(100, 100, [(one, 99 - one) for one in range(100)]), 100)

    def test_long_rows(self):
        for size in (2, 5, 100, 1500):
            for turn in (lambda banks: banks, helper.turned):
                self.assertEqual(self.check_most(*turn(helper.long_row(size))), size)
                self.assertEqual(self.check_most(*turn(helper.pushed_on(size))), size)
                self.assertEqual(self.check_most(*turn(helper.long_row_without_end(size))), size - 1)

    def test_the_only_answers(self):
        self.assertEqual(most_pairs(0, 0, []), ([], [], []))
        self.assertEqual(most_pairs(3, 2, []), ([], [], []))
        self.assertEqual(most_pairs(3, 1, [(2, 0), (0, 0), (2, 0)])[1:], ([], [0]))
        self.assertEqual(most_pairs(1, 3, [(0, 2), (0, 0)])[1:], ([0], []))
        self.assertEqual(most_pairs(2, 2, [(1, 0), (0, 1), (1, 1)])[0], [(0, 1), (1, 0)])

    def test_somewhat_beyond_the_bounds(self):
        self.check_most(*helper.by_chance(3, 300, 250, 4000))
        self.check_all_left(*helper.by_chance(4, 300, 250, 4000))


class AllLeftTest(JudgingTest):
    def test_many_banks_and_ropes(self):
        seen = {"all": 0, "few": 0}
        for left, right, ropes in helper.many_banks():
            with self.subTest(left=left, right=right, ropes=ropes):
                seen[self.check_all_left(left, right, ropes)] += 1
        self.assertGreater(min(seen.values()), 100)

    def test_banks_without_points(self):
        self.assertEqual(all_left(0, 0, []), ("all", []))
        self.assertEqual(all_left(0, 5, []), ("all", []))
        self.assertEqual(self.check_all_left(4, 0, []), "few")
        self.assertEqual(all_left(1, 0, []), ("few", [0], []))

    def test_banks_without_ropes(self):
        self.assertEqual(all_left(1, 1, []), ("few", [0], []))
        self.assertEqual(self.check_all_left(3, 3, []), "few")

    def test_all(self):
        self.assertEqual(all_left(1, 3, [(0, 2)]), ("all", [(0, 2)]))
        self.assertEqual(all_left(2, 2, [(1, 0), (0, 0), (0, 1)]), ("all", [(0, 1), (1, 0)]))
        self.assertEqual(self.check_all_left(*helper.long_row(100)), "all")

    def test_few(self):
        self.assertEqual(all_left(2, 5, [(0, 3), (1, 3), (0, 3)]), ("few", [0, 1], [3]))
        self.assertEqual(all_left(3, 3, [(0, 2), (1, 0), (2, 0), (0, 1)]), ("few", [1, 2], [0]))
        self.assertEqual(all_left(2, 2, [(0, 0), (0, 1)]), ("few", [1], []))
        self.assertEqual(self.check_all_left(*helper.long_row_without_end(100)), "few")

    def test_few_though_the_right_bank_is_all_paired(self):
        ropes = [(one, other) for one in range(4) for other in range(3)]
        self.assertEqual(all_left(4, 3, ropes), ("few", [0, 1, 2, 3], [0, 1, 2]))


if __name__ == "__main__":
    unittest.main()
