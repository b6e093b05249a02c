import copy
import itertools
import unittest

import helper
from twobanks.errors import BankError, NoPoint, NoRope
from twobanks.story import Story, answers


def do(story, deed):
    return getattr(story, deed[0])(*deed[1:])


def told_or_refused(story, deed):
    try:
        return do(story, deed)
    except BankError as error:
        return type(error)


def refusal(left, right, ropes, deed):
    """The error that point 12 names for the deed, or None."""
    if deed == ("look",):
        return None
    word, one, other = deed
    if not (0 <= one < left and 0 <= other < right):
        return NoPoint
    return NoRope if word == "loosen" and (one, other) not in ropes else None


def refused_deeds(left, right, ropes):
    """Deeds of every kind that are refused, whatever pairing there is, each with its text."""
    huge = helper.BEYOND_ALL
    for word in ("tie", "loosen"):
        for one in (-1, -left, -left - 1, left, left + 1, huge, -huge):
            if not 0 <= one < left:
                for other in (0, right - 1, right, -1):
                    yield (word, one, other), "no point"
        for other in (-1, -right, -right - 1, right, right + 1, huge, -huge):
            if not 0 <= other < right:
                for one in (0, left - 1, left, -1):
                    yield (word, one, other), "no point"
    for one, other in itertools.product(range(left), range(right)):
        if (one, other) not in ropes:
            yield ("loosen", one, other), "no rope"


class StoryTest(helper.Judging):
    def check_deed(self, left, right, ropes, deed, told):
        """Changes the ropes as the deed does; told is its answer."""
        if deed == ("look",):
            self.check_largest(left, right, ropes, told)
            return
        if deed[0] == "loosen":
            ropes.remove(deed[1:])
        elif deed[1:] not in ropes:
            ropes.append(deed[1:])
        self.assertIs(type(told), int)
        self.assertEqual(told, helper.most_by_search(left, ropes))

    def check_story(self, left, right, deeds):
        story = Story(left, right)
        ropes = []
        seen = {None: 0, NoPoint: 0, NoRope: 0}
        for deed in deeds:
            error = refusal(left, right, ropes, deed)
            seen[error] += 1
            if error is None:
                self.check_deed(left, right, ropes, deed, do(story, deed))
            else:
                before = story.look()
                self.check_refused(error, do, story, deed)
                self.assertEqual(story.look(), before)
            self.check_largest(left, right, ropes, story.look())
        return seen

    def test_deeds_by_chance(self):
        sizes = ((1, 1), (1, 4), (4, 1), (2, 2), (3, 3), (3, 5), (5, 3), (6, 6), (9, 8), (15, 15))
        for seed, size in enumerate(sizes):
            seen = self.check_story(*size, helper.deeds_by_chance(seed, *size, 400))
            self.assertGreater(min(seen.values()), 5, size)

    def test_every_short_story(self):
        deeds = [(word, one, other) for word in ("tie", "loosen") for one in range(2) for other in range(2)]
        for chosen in itertools.product(deeds, repeat=4):
            self.check_story(2, 2, chosen)

    def test_every_rope_comes_and_goes(self):
        for left, right, ropes in helper.all_small(2, 3):
            for first in (ropes, ropes[::-1]):
                ties = [("tie",) + rope for rope in first]
                self.check_story(left, right, ties + [("loosen",) + rope for rope in ropes])

    def test_at_the_bounds(self):
        self.check_story(100, 100, helper.deeds_by_chance(50, 100, 100, 300))
        for left, right, ropes in (helper.long_row(100), helper.long_row_without_end(100), helper.pushed_on(100)):
            story = Story(left, right)
            for one, other in ropes:
                told = story.tie(one, other)
            self.assertEqual(told, self.check_largest(left, right, ropes, story.look()))
            while ropes:
                rope = ropes.pop(len(ropes) // 2)
                told = story.loosen(*rope)
                self.assertEqual(told, self.check_largest(left, right, ropes, story.look()))
            self.assertEqual(told, 0)

    def test_a_long_day(self):
        left, right, ropes = helper.by_chance(51, 100, 100, 1200)
        story = Story(left, right)
        counts = [story.tie(*rope) for rope in ropes]
        self.assertEqual(counts, sorted(counts))
        self.assertEqual(counts[-1], helper.most_by_search(left, ropes))
        self.check_largest(left, right, ropes, story.look())
        rest = list(dict.fromkeys(ropes))
        while rest:
            told = story.loosen(*rest.pop())
            self.assertEqual(told, self.check_largest(left, right, rest, story.look()))

    def test_the_beginning(self):
        for left, right in ((0, 0), (0, 3), (3, 0), (1, 1), (100, 100), (150, 130)):
            self.assertEqual(Story(left, right).look(), ([], [], []))

    def test_what_is_joined_already(self):
        story = Story(2, 2)
        self.assertEqual(story.tie(0, 1), 1)
        self.assertEqual(story.tie(0, 1), 1)
        self.assertEqual(story.look()[0], [(0, 1)])
        # The second tie brought no second rope.
        self.assertEqual(story.loosen(0, 1), 0)
        self.assertEqual(story.look(), ([], [], []))
        self.check_refused(NoRope, story.loosen, 0, 1)
        self.assertEqual(story.tie(0, 1), 1)

    def test_a_pair_that_goes_is_made_up_for(self):
        story = Story(2, 2)
        for rope, most in (((0, 0), 1), ((1, 0), 1), ((0, 1), 2), ((1, 1), 2)):
            self.assertEqual(story.tie(*rope), most)
        self.assertEqual(story.loosen(0, 0), 2)
        self.assertEqual(story.look()[0], [(0, 1), (1, 0)])
        self.assertEqual(story.loosen(0, 1), 1)
        self.assertEqual(story.loosen(1, 0), 1)
        self.assertEqual(story.look()[0], [(1, 1)])


class RefusedDeedsTest(helper.Judging):
    def test_banks_without_points(self):
        for left, right in ((0, 0), (0, 2), (2, 0)):
            story = Story(left, right)
            for deed, text in refused_deeds(left, right, []):
                self.assertEqual(text, "no point")
                self.check_refused(NoPoint, do, story, deed)
            self.check_refused(NoPoint, story.tie, 0, 0)
            self.check_refused(NoPoint, story.loosen, 0, 0)
            self.assertEqual(story.look(), ([], [], []))

    def test_the_banks_are_told_apart(self):
        story = Story(1, 3)
        self.assertEqual(story.tie(0, 2), 1)
        self.check_refused(NoPoint, story.tie, 2, 0)
        self.check_refused(NoPoint, story.loosen, 2, 0)
        story = Story(3, 1)
        self.assertEqual(story.tie(2, 0), 1)
        self.check_refused(NoPoint, story.tie, 0, 2)
        self.check_refused(NoPoint, story.loosen, 0, 2)

    def test_which_refusal(self):
        for left, right, ropes in [(2, 3, []), (2, 3, [(0, 0), (1, 0)]), (3, 3, [(0, 0), (2, 2), (1, 2)])]:
            story = Story(left, right)
            for rope in ropes:
                story.tie(*rope)
            before = story.look()
            for deed, text in refused_deeds(left, right, ropes):
                self.check_refused(NoPoint if text == "no point" else NoRope, do, story, deed)
                self.assertEqual(story.look(), before)

    def test_refused_deeds_change_nothing(self):
        for left, right, ropes in helper.all_small(2, 2):
            ties = [("tie",) + rope for rope in ropes]
            after = [("look",), ("tie", 1, 0), ("tie", 0, 1), ("look",), ("loosen", 1, 0), ("look",)]
            wanted = answers(left, right, ties + after)
            for deed, text in refused_deeds(left, right, ropes):
                told = answers(left, right, ties + [deed] + after)
                self.assertEqual(told.pop(len(ties)), text)
                self.assertEqual(told, wanted)


class AnswersTest(helper.Judging):
    def test_the_same_as_by_the_methods(self):
        texts = {NoPoint: "no point", NoRope: "no rope"}
        for seed, size in enumerate(((1, 1), (2, 3), (5, 5), (9, 7), (100, 100))):
            deeds = helper.deeds_by_chance(100 + seed, *size, 1000)
            whole = answers(*size, deeds)
            self.assertIs(type(whole), list)
            self.assertEqual(len(whole), 1000)
            story = Story(*size)
            for deed, answer in zip(deeds, whole):
                told = told_or_refused(story, deed)
                self.assertEqual(answer, texts[told] if isinstance(told, type) else told)

    def test_a_story(self):
        deeds = [("look",), ("tie", 0, 0), ("tie", 1, 0), ("loosen", 1, 1), ("tie", 2, 0), ("loosen", -1, 0),
                 ("loosen", 0, 0), ("look",), ("loosen", 1, 0), ("loosen", 1, 0), ("look",)]
        wanted = [([], [], []), 1, 1, "no rope", "no point", "no point",
                  1, ([(1, 0)], [], [0]), 0, "no rope", ([], [], [])]
        told = answers(2, 2, deeds)
        self.assertEqual(len(told), len(wanted))
        for place, (answer, want) in enumerate(zip(told, wanted)):
            if place == 7:
                self.assertEqual(self.check_largest(2, 2, [(1, 0)], answer), 1)
            else:
                self.assertEqual(answer, want)

    def test_no_deeds(self):
        self.assertEqual(answers(0, 0, []), [])
        self.assertEqual(answers(3, 4, []), [])

    def test_banks_without_points(self):
        deeds = [("tie", 0, 0), ("loosen", 0, 0), ("look",)]
        for left, right in ((0, 0), (0, 2), (2, 0)):
            self.assertEqual(answers(left, right, deeds), ["no point", "no point", ([], [], [])])

    def test_somewhat_beyond_the_bounds(self):
        left, right, ropes = helper.by_chance(52, 150, 150, 2000)
        told = answers(left, right, [("tie",) + rope for rope in ropes] + [("look",)])
        self.assertEqual(told[-2], self.check_largest(left, right, ropes, told[-1]))


class NothingKeptTest(helper.Judging):
    def test_two_stories_have_nothing_in_common(self):
        first, second = Story(3, 3), Story(3, 3)
        first.tie(0, 0)
        self.assertEqual(second.look(), ([], [], []))
        self.check_refused(NoRope, second.loosen, 0, 0)
        self.assertEqual(second.tie(1, 0), 1)
        self.assertEqual(first.tie(2, 2), 2)
        self.assertEqual(first.look()[0], [(0, 0), (2, 2)])
        self.assertEqual(second.look()[0], [(1, 0)])
        self.assertEqual(Story(3, 3).look(), ([], [], []))

    def test_stories_side_by_side(self):
        days = [helper.deeds_by_chance(seed, 4, 4, 200) for seed in (200, 201)]
        apart = [answers(4, 4, deeds) for deeds in days]
        stories = [Story(4, 4), Story(4, 4)]
        for turn in range(200):
            for story, deeds, told in zip(stories, days, apart):
                answer = told_or_refused(story, deeds[turn])
                self.assertTrue(answer == told[turn] or isinstance(told[turn], str) and isinstance(answer, type))

    def test_a_look_stays_as_it_was(self):
        for seed in range(20):
            story = Story(4, 4)
            looks = []
            for deed in helper.deeds_by_chance(300 + seed, 4, 4, 60):
                told_or_refused(story, deed)
                told = story.look()
                looks.append((told, copy.deepcopy(told)))
            for told, before in looks:
                self.assertEqual(told, before)

    def test_who_changes_an_answer_changes_nothing_here(self):
        spoilt, other = Story(4, 4), Story(4, 4)
        for deed in helper.deeds_by_chance(400, 4, 4, 200):
            self.assertEqual(told_or_refused(spoilt, deed), told_or_refused(other, deed))
            for part in spoilt.look():
                part.append((3, 3))
                part.reverse()
            self.assertEqual(spoilt.look(), other.look())

    def test_the_deeds_stay_as_they_were(self):
        for seed in range(20):
            deeds = helper.deeds_by_chance(500 + seed, 5, 5, 100)
            before = copy.deepcopy(deeds)
            told = answers(5, 5, deeds)
            self.assertEqual(deeds, before)
            kept = copy.deepcopy(told)
            deeds.clear()
            self.assertEqual(told, kept)
            self.assertEqual(answers(5, 5, before), kept)


if __name__ == "__main__":
    unittest.main()
