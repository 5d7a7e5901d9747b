import itertools
import unittest

from tests.samples import (
    ALONE, APART, FOUR, FULL, LINE, LOOSE, LOTS, THREE, WOUND, Asking, all_states, line_of,
    random_cases, ring_of, small_webs, unlike_webs, wrong_folk, wrong_numbers, wrong_states,
    wrong_webs,
)
from tests.slow_ways import changes_by_ticks, greatest_by_walks, states_by_ticks
from threemoods.errors import BadFolk, BadNumber, BadState, BadWeb
from threemoods.walks import changes
from threemoods.whens import story, when_changed, when_mood

MOST = 10 ** 30
ODD = (0, 1, 2, 2, 1, 0, 0, 2, 1, 1)
OTHERS = (
    (ALONE, (2,)), (LOOSE, ODD), (FULL, ODD), (LOTS, ODD[:9]), (line_of(10), ODD), (ring_of(10), ODD),
)


def small_cases():
    """All states of unlike webs of up to four folk, and some of webs of five."""
    for web in (*small_webs(3), *unlike_webs(4)):
        for state in all_states(web[0]):
            yield web, state
    for web in unlike_webs(5):
        for state in itertools.islice(all_states(5), 0, None, 5):
            yield web, state


class WhenChangedTest(unittest.TestCase):
    def check(self, web, state, ticks):
        """Check the first ticks of all numbers of changes that running comes to."""
        counts = changes_by_ticks(states_by_ticks(web, state, ticks))
        for one in range(web[0]):
            row = [count[one] for count in counts]
            for many in range(row[-1] + 1):
                self.assertEqual(
                    row.index(many), when_changed(web, state, one, many), (web, state, one, many),
                )
            # A ring of ten that is wound once still changes somebody in so many ticks.
            if row[-1] == row[-30]:
                for many in (row[-1] + 1, row[-1] + 2, 1000, MOST):
                    self.assertIsNone(when_changed(web, state, one, many), (web, state, one, many))

    def check_late(self, web, state, many):
        """Check a tick that may lie beyond what can be run, by the greatest sums of walks."""
        for one in range(web[0]):
            tick = when_changed(web, state, one, many)
            if tick is None:
                self.assertLess(changes(web, state, MOST)[one], 20)
            else:
                self.assertIs(int, tick.__class__)
                self.assertEqual(many, greatest_by_walks(web, state, tick)[one])
                self.assertEqual(many - 1, greatest_by_walks(web, state, tick - 1)[one])

    def test_examples_of_the_interface(self):
        self.assertEqual(2, when_changed(LINE, (0, 1, 2), 0, 2))
        self.assertIsNone(when_changed(LINE, (0, 1, 2), 0, 3))

    def test_small_webs(self):
        for web, state in small_cases():
            self.check(web, state, 45)

    def test_greater_webs(self):
        for web, state in (*WOUND, *OTHERS, *random_cases(60, seed=14)):
            self.check(web, state, 100)

    def test_no_change_is_now(self):
        for web, state in (*WOUND, *OTHERS):
            for one in range(web[0]):
                self.assertEqual(0, when_changed(web, state, one, 0))

    def test_the_greatest_number_of_changes(self):
        for one in range(3):
            self.assertEqual(MOST, when_changed(THREE, (0, 1, 2), one, MOST))
            self.assertEqual(MOST - 1, when_changed(THREE, (0, 1, 2), one, MOST - 1))
        # Three changes in four ticks: the answer lies beyond the limit of many.
        late = [when_changed(FOUR, (0, 1, 2, 2), one, MOST) for one in range(4)]
        for one, tick in enumerate(late):
            self.assertGreater(tick, MOST)
            self.assertIn(tick - MOST // 3 * 4, (1, 2))
        slow = when_changed(ring_of(10), (0, 1, 2, 2, 2, 2, 2, 2, 2, 2), 5, MOST)
        self.assertGreater(slow, 3 * MOST)
        for web, state in ((THREE, (0, 1, 2)), (FOUR, (0, 1, 2, 2)), *WOUND):
            self.check_late(web, state, MOST)

    def test_late_ticks(self):
        for web, state in random_cases(20, seed=15):
            for many in (20, 1001, 10 ** 17 + 3):
                self.check_late(web, state, many)

    def test_never(self):
        for web, state in OTHERS[:2]:
            for one in range(web[0]):
                self.assertIsNone(when_changed(web, state, one, MOST))
        self.assertIsNone(when_changed(LINE, (0, 1, 2), 2, 1))
        self.assertIsNone(when_changed(APART, (0, 1, 2) + (0,) * 7, 5, 1))
        self.assertEqual(7, when_changed(APART, (0, 1, 2) + (0,) * 7, 1, 7))


class WhenMoodTest(unittest.TestCase):
    def check(self, web, state):
        states = states_by_ticks(web, state, 60)
        for one in range(web[0]):
            row = [now[one] for now in states]
            for mood in range(3):
                tick = row.index(mood) if mood in row else None
                self.assertEqual(tick, when_mood(web, state, one, mood), (web, state, one, mood))

    def test_examples_of_the_interface(self):
        self.assertEqual(2, when_mood(LINE, (0, 1, 2), 0, 2))

    def test_small_webs(self):
        for web, state in small_cases():
            self.check(web, state)

    def test_greater_webs(self):
        for web, state in (*WOUND, *OTHERS, *random_cases(100, seed=16)):
            self.check(web, state)

    def test_now_and_never(self):
        for mood in range(3):
            self.assertEqual(0, when_mood(ALONE, (mood,), 0, mood))
            self.assertIsNone(when_mood(ALONE, (mood,), 0, (mood + 1) % 3))
            self.assertIsNone(when_mood(ALONE, (mood,), 0, (mood + 2) % 3))
        self.assertIsNone(when_mood(LINE, (1, 1, 2), 0, 0))
        self.assertIsNone(when_mood(LINE, (0, 0, 1), 0, 2))


class StoryTest(unittest.TestCase):
    def check(self, web, state, last):
        states = states_by_ticks(web, state, last)
        for one in range(web[0]):
            told = "".join("012"[now[one]] for now in states)
            self.assertEqual(told, story(web, state, one, last), (web, state, one, last))

    def test_examples_of_the_interface(self):
        self.assertEqual("0122", story(LINE, (0, 1, 2), 0, 3))

    def test_small_webs(self):
        for web, state in small_cases():
            self.check(web, state, 9)

    def test_the_least_and_the_greatest_length(self):
        for web, state in (*WOUND, *OTHERS, (THREE, (0, 1, 2)), (FOUR, (0, 1, 2, 2))):
            for last in (0, 1, 299, 300):
                self.check(web, state, last)

    def test_values(self):
        self.assertEqual("2", story(ALONE, (2,), 0, 0))
        self.assertEqual("2" * 301, story(ALONE, (2,), 0, 300))
        self.assertEqual("120" * 100 + "1", story(THREE, (0, 1, 2), 1, 300))
        self.assertEqual("012201220", story(FOUR, (0, 1, 2, 2), 0, 8))


class WrongArgumentsTest(Asking, unittest.TestCase):
    def test_no_folk(self):
        for function in (when_changed, when_mood, story):
            for web, state in ((ALONE, (0,)), (LINE, (0, 1, 2)), (LOOSE, ODD)):
                for value in wrong_folk(web[0]):
                    self.raises(BadFolk, function, web, state, value, 1)

    def test_no_numbers(self):
        for value in (-1, MOST + 1, True, "1", None, *wrong_numbers(0, MOST)):
            self.raises(BadNumber, when_changed, LINE, (0, 1, 2), 0, value)
        for value in (-1, 3, True, False, "0", None, *wrong_numbers(0, 2)):
            self.raises(BadNumber, when_mood, LINE, (0, 1, 2), 0, value)
        for value in (-1, 301, True, None, "3", *wrong_numbers(0, 300)):
            self.raises(BadNumber, story, LINE, (0, 1, 2), 0, value)

    def test_wrong_numbers_for_one_who_never_changes(self):
        self.raises(BadNumber, when_changed, ALONE, (0,), 0, MOST + 1)
        self.raises(BadNumber, when_mood, ALONE, (0,), 0, 3)
        self.raises(BadNumber, when_mood, ALONE, (0,), 0, False)

    def test_indexes_of_wrong_webs(self):
        for function in (when_changed, when_mood, story):
            for value, index in wrong_webs():
                error = self.raises(BadWeb, function, value, (0, 1, 2), 0, 1)
                self.assertEqual(index, error.index)

    def test_the_leftmost_argument_comes_first(self):
        for function, most in ((when_changed, MOST), (when_mood, 2), (story, 300)):
            self.tells_leftmost(
                function,
                (LINE, BadWeb, [value for value, _ in wrong_webs()]),
                ((0, 1, 2), BadState, wrong_states(3)),
                (0, BadFolk, wrong_folk(3)),
                (2, BadNumber, wrong_numbers(0, most)),
            )


class ArgumentsTest(Asking, unittest.TestCase):
    def test_arguments_are_left_as_they_are(self):
        for function in (when_changed, when_mood, story):
            for web in (LINE, THREE, [3, [[0, 1]]]):
                for state in ((0, 1, 2), [0, 1, 2], (0, [1], 2)):
                    self.keeps(function, web, state, 0, 2)
                    self.keeps(function, web, state, [0], [2])


if __name__ == "__main__":
    unittest.main()
