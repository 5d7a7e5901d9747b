import itertools
import unittest

from tests.samples import (
    ALONE, FOUR, FULL, LINE, LOOSE, LOTS, NO_INTEGERS, THREE, Asking, all_states, line_of, ring_of,
    small_webs, wrong_states, wrong_webs,
)
from threemoods.errors import BadNumber, BadState, BadWeb
from threemoods.moods import run, stirred, tick

# Who beats whom, written out from the document.
BEATEN_BY = {0: 1, 1: 2, 2: 0}

WRONG_NUMBERS = (-1, 501, 502, 10 ** 30, -(10 ** 30), *NO_INTEGERS)


def stirred_by_words(web, state):
    """The stirred folk, read off the list of streets."""
    found = set()
    for one, other in web[1]:
        if state[other] == BEATEN_BY[state[one]]:
            found.add(one)
        if state[one] == BEATEN_BY[state[other]]:
            found.add(other)
    return tuple(sorted(found))


class StirredTest(Asking, unittest.TestCase):
    def test_example_of_the_interface(self):
        self.assertEqual((0, 1), stirred(LINE, (0, 1, 2)))

    def test_each_pair_of_moods(self):
        pair = (2, ((0, 1),))
        self.assertEqual((), stirred(pair, (0, 0)))
        self.assertEqual((0,), stirred(pair, (0, 1)))
        self.assertEqual((1,), stirred(pair, (0, 2)))
        self.assertEqual((1,), stirred(pair, (1, 0)))
        self.assertEqual((), stirred(pair, (1, 1)))
        self.assertEqual((0,), stirred(pair, (1, 2)))
        self.assertEqual((0,), stirred(pair, (2, 0)))
        self.assertEqual((1,), stirred(pair, (2, 1)))
        self.assertEqual((), stirred(pair, (2, 2)))

    def test_rings(self):
        self.assertEqual((0, 1, 2), stirred(THREE, (0, 1, 2)))
        self.assertEqual((0, 1), stirred(THREE, (0, 0, 1)))
        self.assertEqual((0, 1, 3), stirred(FOUR, (0, 1, 2, 2)))

    def test_folk_of_other_parts_stir_nobody(self):
        self.assertEqual((), stirred(LOTS, (0, 1, 2, 2, 0, 1, 1, 2, 0)))
        self.assertEqual((2, 5), stirred(LOTS, (0, 0, 2, 0, 0, 2, 1, 0, 0)))
        self.assertEqual((), stirred(LOOSE, (0, 1, 2, 0, 1, 2, 0, 1, 2, 0)))

    def test_still_states(self):
        for mood in range(3):
            self.assertEqual((), stirred(ALONE, (mood,)))
            self.assertEqual((), stirred(FULL, (mood,) * 10))


class TickTest(Asking, unittest.TestCase):
    def test_example_of_the_interface(self):
        self.assertEqual((1, 2, 2), tick(LINE, (0, 1, 2)))

    def test_all_change_at_once(self):
        self.assertEqual((1, 2, 0), tick(THREE, (0, 1, 2)))
        self.assertEqual((1, 2, 2, 0), tick(FOUR, (0, 1, 2, 2)))

    def test_a_mood_moves_by_one_street_a_tick(self):
        self.assertEqual((1, 1, 0, 0), tick(line_of(4), (1, 0, 0, 0)))
        self.assertEqual((2, 2, 1, 0), tick(line_of(4), (2, 1, 0, 0)))

    def test_still_states_stay(self):
        for mood in range(3):
            self.assertEqual((mood,), tick(ALONE, (mood,)))
            self.assertEqual((mood,) * 10, tick(FULL, (mood,) * 10))
        mixed = (0, 1, 2, 0, 1, 2, 0, 1, 2, 0)
        self.assertEqual(mixed, tick(LOOSE, mixed))

    def test_all_small_webs_and_states(self):
        for web in small_webs(4):
            for state in all_states(web[0]):
                moved = stirred_by_words(web, state)
                self.assertEqual(moved, stirred(web, state), (web, state))
                after = tuple(
                    BEATEN_BY[mood] if one in moved else mood for one, mood in enumerate(state)
                )
                self.assertEqual(after, tick(web, state), (web, state))


class RunTest(Asking, unittest.TestCase):
    def test_example_of_the_interface(self):
        self.assertEqual(((0, 1, 2), (1, 2, 2), (2, 2, 2)), run(LINE, (0, 1, 2), 2))

    def test_no_tick_and_one(self):
        self.assertEqual(((0, 1, 2),), run(THREE, (0, 1, 2), 0))
        self.assertEqual(((0, 1, 2), (1, 2, 0)), run(THREE, (0, 1, 2), 1))

    def test_five_hundred_ticks(self):
        states = run(THREE, (0, 1, 2), 500)
        self.assertEqual(501, len(states))
        for at, state in enumerate(states):
            self.assertEqual((at % 3, (at + 1) % 3, (at + 2) % 3), state)
        self.assertEqual(((0,) * 10,) * 501, run(FULL, (0,) * 10, 500))

    def test_each_state_is_a_tick_behind_the_one_ahead(self):
        odd = (0, 1, 2, 2, 1, 0, 0, 2, 1, 1)
        for web in (line_of(10), ring_of(10), FULL, LOOSE, LOTS, FOUR, ALONE):
            states = run(web, odd[:web[0]], 500)
            self.assertEqual(501, len(states))
            self.assertEqual(odd[:web[0]], states[0])
            for state, after in itertools.pairwise(states):
                self.assertEqual(tick(web, state), after)

    def test_a_line_comes_to_rest(self):
        states = run(line_of(10), (0, 1, 2, 2, 1, 0, 0, 2, 1, 1), 30)
        self.assertEqual((), stirred(line_of(10), states[-1]))

    def test_parts_run_on_their_own(self):
        web = (6, ((0, 1), (1, 2), (3, 4), (3, 5), (4, 5)))
        whole = run(web, (0, 1, 2, 2, 0, 1), 20)
        line = run(LINE, (0, 1, 2), 20)
        ring = run(THREE, (2, 0, 1), 20)
        self.assertEqual(tuple(one + other for one, other in zip(line, ring)), whole)

    def test_tuples_throughout(self):
        states = run(LINE, (0, 1, 2), 3)
        self.assertIsInstance(states, tuple)
        for state in states:
            self.assertIsInstance(state, tuple)


class WrongArgumentsTest(Asking, unittest.TestCase):
    def test_no_webs(self):
        for value, index in wrong_webs():
            with self.subTest(value=value):
                self.assertEqual(index, self.raises(BadWeb, stirred, value, (0, 0, 0)).index)
                self.assertEqual(index, self.raises(BadWeb, tick, value, (0, 0, 0)).index)
                self.assertEqual(index, self.raises(BadWeb, run, value, (0, 0, 0), 0).index)

    def test_no_states(self):
        for web in (ALONE, LINE, LOOSE):
            for value in wrong_states(web[0]):
                with self.subTest(web=web, value=value):
                    self.raises(BadState, stirred, web, value)
                    self.raises(BadState, tick, web, value)
                    self.raises(BadState, run, web, value, 0)

    def test_no_numbers(self):
        for value in WRONG_NUMBERS:
            with self.subTest(value=value):
                self.raises(BadNumber, run, LINE, (0, 1, 2), value)

    def test_the_leftmost_argument_comes_first(self):
        for many in (1, *WRONG_NUMBERS):
            self.raises(BadState, run, LINE, (0, 1), many)
            self.raises(BadState, run, LINE, (0, 1, 3), many)
            self.raises(BadWeb, run, (3, ((0, 0),)), (0, 1, 2), many)
            self.raises(BadWeb, run, (3, ((0, 0),)), (0, 1), many)
        for value in wrong_states(3):
            self.raises(BadWeb, stirred, (11, ()), value)
            self.raises(BadWeb, tick, (3, ((1, 0),)), value)
            self.raises(BadWeb, run, None, value, -1)


class ArgumentsTest(Asking, unittest.TestCase):
    def test_arguments_are_left_as_they_are(self):
        for web in (LINE, [3, [[0, 1]]], (3, ([1, 0],))):
            for state in ((0, 1, 2), [0, 1, 2], ([0], 1, 2), {0: [1]}):
                self.keeps(stirred, web, state)
                self.keeps(tick, web, state)
                self.keeps(run, web, state, 3)
                self.keeps(run, web, state, [3])

    def test_equal_arguments_have_equal_answers(self):
        self.assertEqual(run(FOUR, (0, 1, 2, 2), 50), run(FOUR, (0, 1, 2, 2), 50))


if __name__ == "__main__":
    unittest.main()
