import itertools
import unittest

from tests.samples import (
    ALONE, APART, FOUR, FULL, LINE, LOOSE, LOTS, MIXED, SHARED, TAILED, THREE, WOUND, Asking,
    all_states, line_of, random_cases, ring_of, small_webs, unlike_webs, wrong_states, wrong_webs,
)
from tests.slow_ways import meet_by_ticks, round_by_ticks, states_by_ticks
from threemoods.errors import BadState, BadWeb
from threemoods.rounds import becomes, coming_round, meet

ODD = (0, 1, 2, 2, 1, 0, 0, 2, 1, 1)
OTHERS = (
    (ALONE, (2,)), (LOOSE, ODD), (FULL, ODD), (LOTS, ODD[:9]), (line_of(10), ODD), (ring_of(10), ODD),
)


def greater_cases():
    """Webs of seven to ten folk with states."""
    yield from WOUND
    yield from OTHERS
    yield from random_cases(80, seed=21)


class ComingRoundTest(unittest.TestCase):
    def check(self, web, state, many=200):
        answer = coming_round(web, state)
        self.assertIsInstance(answer, tuple)
        self.assertEqual(round_by_ticks(web, state, many), answer, (web, state))

    def test_examples_of_the_interface(self):
        self.assertEqual((0, 3), coming_round(THREE, (0, 1, 2)))
        self.assertEqual((2, 1), coming_round(LINE, (0, 1, 2)))

    def test_small_webs(self):
        for web in (*small_webs(3), *unlike_webs(4)):
            for state in all_states(web[0]):
                self.check(web, state, 60)
        for web in unlike_webs(5):
            for state in itertools.islice(all_states(5), 0, None, 4):
                self.check(web, state, 60)

    def test_greater_webs(self):
        for web, state in greater_cases():
            self.check(web, state)

    def test_still_states(self):
        for web, state in ((ALONE, (1,)), (LOOSE, ODD), (FULL, (2,) * 10), (LINE, (0, 0, 0))):
            self.assertEqual((0, 1), coming_round(web, state))

    def test_parts_come_round_together(self):
        # Rings of 3 and of 7, each wound.
        self.assertEqual((0, 3), coming_round(APART, (0, 1, 2) + (0,) * 7))
        self.assertEqual(21, coming_round(APART, (0, 1, 2, 0, 1, 2, 0, 1, 2, 0))[1])
        # Rings of 3 and of 4 and a line of three.
        self.assertEqual(12, coming_round(MIXED, (0, 0, 0, 1, 1, 1, 2, 2, 2, 2))[1])
        # A ring of 4 in which three of four ticks change each.
        self.assertEqual((0, 4), coming_round(FOUR, (0, 1, 2, 2)))

    def test_late_rounds(self):
        # A ring of ten that is wound once comes round in the time of a lap.
        self.assertEqual((0, 10), coming_round(ring_of(10), (0, 1, 2) + (2,) * 7))
        # Steps against the others are gone before states come again.
        self.assertEqual((1, 10), coming_round(ring_of(10), (0, 1, 2, 2, 2, 1, 2, 2, 2, 2)))
        self.assertEqual((3, 10), coming_round(ring_of(10), (0, 1, 2, 0, 1, 1, 0, 2, 2, 2)))
        self.assertEqual(5, coming_round(ring_of(10), (0, 2, 2, 2, 2, 2, 2, 1, 1, 2))[0])


class MeetTest(unittest.TestCase):
    def check(self, web, one, other, many=200):
        expected = meet_by_ticks(web, one, other, many)
        self.assertEqual(expected, meet(web, one, other), (web, one, other))

    def test_examples_of_the_interface(self):
        self.assertEqual(1, meet(LINE, (0, 1, 2), (1, 1, 2)))

    def test_all_pairs_of_states_of_the_smallest_webs(self):
        for web in small_webs(3):
            for one, other in itertools.product(all_states(web[0]), repeat=2):
                self.check(web, one, other, 30)

    def test_small_webs(self):
        for web in unlike_webs(4):
            for one in itertools.islice(all_states(4), 0, None, 4):
                for other in itertools.islice(all_states(4), 0, None, 3):
                    self.check(web, one, other, 40)

    def test_greater_webs(self):
        for web, state in greater_cases():
            near = state[:-1] + ((state[-1] + 1) % 3,)
            late = states_by_ticks(web, state, 3)[3]
            for other in (near, late, state[::-1], (0,) * web[0]):
                self.check(web, state, other)
                self.check(web, other, state)

    def test_a_state_and_itself(self):
        for web, state in greater_cases():
            self.assertEqual(0, meet(web, state, state))
            self.assertIs(int, meet(web, state, state).__class__)

    def test_never(self):
        self.assertIsNone(meet(ALONE, (0,), (1,)))
        self.assertIsNone(meet(LINE, (0, 0, 0), (1, 1, 1)))
        self.assertIsNone(meet(THREE, (0, 1, 2), (1, 2, 0)))
        self.assertIsNone(meet(THREE, (0, 1, 2), (0, 0, 0)))
        # One part alike is not enough.
        self.assertIsNone(meet(APART, (0, 1, 2) + (0,) * 7, (0, 1, 2) + (1,) * 7))

    def test_as_late_as_the_last_one_changes(self):
        up = (0, 1, 2, 0, 1, 2, 0, 1, 2, 0)
        self.assertEqual(9, meet(line_of(10), up, (0,) * 10))
        self.assertEqual(1, meet(line_of(10), up, (1,) + up[1:]))
        self.assertEqual(9, meet(line_of(10), up, up[:6] + (0, 0, 0, 0)))


class BecomesTest(unittest.TestCase):
    def check(self, web, state, other, many=200):
        states = states_by_ticks(web, state, many)
        expected = states.index(other) if other in states else None
        self.assertEqual(expected, becomes(web, state, other), (web, state, other))

    def test_examples_of_the_interface(self):
        self.assertEqual(2, becomes(THREE, (0, 1, 2), (2, 0, 1)))
        self.assertIsNone(becomes(LINE, (2, 2, 2), (0, 0, 0)))

    def test_all_pairs_of_states_of_the_smallest_webs(self):
        for web in small_webs(3):
            for state, other in itertools.product(all_states(web[0]), repeat=2):
                self.check(web, state, other, 30)

    def test_all_that_greater_webs_become(self):
        for web, state in greater_cases():
            states = states_by_ticks(web, state, 60)
            for tick in (0, 1, 2, 5, 11, 29, 60):
                self.check(web, state, states[tick])
                self.check(web, states[tick], state)

    def test_a_state_and_itself(self):
        for web, state in greater_cases():
            self.assertEqual(0, becomes(web, state, state))

    def test_the_last_state_ahead_of_a_round(self):
        for web, state in ((TAILED, WOUND[0][1]), (SHARED, WOUND[3][1]), (THREE, (0, 1, 2))):
            first, period = coming_round(web, state)
            states = states_by_ticks(web, state, first + period)
            self.assertEqual(first + period - 1, becomes(web, state, states[-2]))
            self.assertEqual(first, becomes(web, state, states[-1]))

    def test_never(self):
        self.assertIsNone(becomes(ALONE, (0,), (1,)))
        self.assertIsNone(becomes(THREE, (0, 1, 2), (0, 2, 1)))
        self.assertIsNone(becomes(LINE, (1, 2, 2), (0, 1, 2)))


class WrongArgumentsTest(Asking, unittest.TestCase):
    def test_no_states(self):
        for web in (ALONE, LINE, LOOSE):
            right = (0,) * web[0]
            for value in wrong_states(web[0]):
                self.raises(BadState, coming_round, web, value)
                for function in (meet, becomes):
                    self.raises(BadState, function, web, value, right)
                    self.raises(BadState, function, web, right, value)
                    self.raises(BadState, function, web, value, value)

    def test_indexes_of_wrong_webs(self):
        for value, index in wrong_webs():
            self.assertEqual(index, self.raises(BadWeb, coming_round, value, (0, 1, 2)).index)
            for function in (meet, becomes):
                error = self.raises(BadWeb, function, value, (0, 1, 2), (0, 0, 0))
                self.assertEqual(index, error.index)

    def test_the_leftmost_argument_comes_first(self):
        webs = [value for value, _ in wrong_webs()]
        states = ((0, 1, 2), BadState, wrong_states(3))
        self.tells_leftmost(coming_round, (LINE, BadWeb, webs), states)
        for function in (meet, becomes):
            self.tells_leftmost(function, (LINE, BadWeb, webs), states, states)


class ArgumentsTest(Asking, unittest.TestCase):
    def test_arguments_are_left_as_they_are(self):
        for web in (LINE, THREE, [3, [[0, 1]]]):
            for state in ((0, 1, 2), [0, 1, 2], (0, [1], 2)):
                self.keeps(coming_round, web, state)
                for function in (meet, becomes):
                    self.keeps(function, web, state, (0, 0, 0))
                    self.keeps(function, web, (0, 0, 0), state)


if __name__ == "__main__":
    unittest.main()
