"""What holds for everything that takes banks and ropes and tells something of them."""

import copy
import itertools
import unittest

import helper
from twobanks.errors import BankError, NoPoint
from twobanks.pairing import all_left, most_pairs
from twobanks.roles import role_of
from twobanks.sets import fewest_ropes, most_apart


def role_of_last(left, right, ropes):
    return role_of(left, right, ropes, len(ropes) - 1)


TELLS = (most_pairs, all_left, most_apart, fewest_ropes, role_of_last)
BANKS = ((0, 0, []), (2, 2, [(0, 0), (1, 0)]), (2, 1, [(1, 0), (0, 0), (1, 0)]), (2, 2, [(1, 1), (0, 1), (0, 0)]),
         helper.long_row(5), helper.long_row_without_end(5))


def told_or_refused(tell, left, right, ropes):
    try:
        return tell(left, right, ropes)
    except BankError as error:
        return type(error)


def spoil(told):
    """Change all lists of an answer."""
    for part in told if isinstance(told, tuple) else ():
        if isinstance(part, list):
            part.append((9, 9))


class WholeTest(helper.Judging):
    def test_no_point(self):
        for left, right in ((3, 3), (2, 4), (1, 1), (0, 2), (2, 0), (0, 0)):
            for ropes in helper.bad_ropes(left, right):
                for tell in TELLS:
                    self.check_refused(NoPoint, tell, left, right, ropes)

    def test_the_banks_are_told_apart(self):
        for tell in TELLS:
            tell(1, 6, [(0, other) for other in range(6)])
            tell(6, 1, [(one, 0) for one in range(6)])
            self.check_refused(NoPoint, tell, 1, 6, [(5, 0)])
            self.check_refused(NoPoint, tell, 6, 1, [(0, 5)])

    def test_nothing_handed_in_is_changed(self):
        for left, right, ropes in helper.many_banks():
            for handed in (ropes[::-1], ropes + [(0, right)], [(-1, 0)] + ropes):
                before = copy.deepcopy(handed)
                for tell in TELLS:
                    told_or_refused(tell, left, right, handed)
                    self.assertEqual(handed, before)

    def test_the_same_is_told_again(self):
        for left, right, ropes in helper.banks_by_chance():
            for tell in TELLS:
                told = told_or_refused(tell, left, right, ropes)
                self.assertEqual(told_or_refused(tell, left, right, list(ropes)), told)

    def test_an_answer_stays_as_it_was(self):
        for tell, (left, right, ropes) in itertools.product(TELLS, BANKS):
            handed = list(ropes)
            told = told_or_refused(tell, left, right, handed)
            before = copy.deepcopy(told)
            handed.clear()
            handed.append((0, 0))
            told_or_refused(tell, left, right, handed)
            self.assertEqual(told, before)

    def test_who_changes_an_answer_changes_nothing_here(self):
        for tell, (left, right, ropes) in itertools.product(TELLS, BANKS):
            handed = list(ropes)
            told = told_or_refused(tell, left, right, handed)
            before = copy.deepcopy(told)
            spoil(told)
            self.assertEqual(handed, ropes)
            self.assertEqual(told_or_refused(tell, left, right, handed), before)

    def test_what_is_told_together(self):
        """Points 5 to 10: one number of pairs stands behind all that is told."""
        for left, right, ropes in helper.many_banks():
            pairs, ones, others = most_pairs(left, right, ropes)
            most = len(pairs)
            apart = most_apart(left, right, ropes)
            self.assertEqual(len(apart[2]), most)
            self.assertEqual(len(apart[0]) + len(apart[1]), left + right - most)
            self.assertEqual(all_left(left, right, ropes)[0], "all" if most == left else "few")
            if not helper.is_lonely(left, right, ropes):
                self.assertEqual(len(fewest_ropes(left, right, ropes)[0]), left + right - most)
            if ropes:
                told = role_of_last(left, right, ropes)
                if told[0] == "some":
                    self.assertEqual((len(told[1]), len(told[2])), (most, most))


if __name__ == "__main__":
    unittest.main()
