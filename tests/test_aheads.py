import itertools
import unittest
from unittest import mock

from tests.samples import (
    ALONE, APART, FOUR, FULL, LINE, LOOSE, LOTS, TAILED, THREE, WOUND, Asking, all_states, line_of,
    random_cases, ring_of, small_webs, unlike_webs, wrong_numbers, wrong_states, wrong_webs,
)
from tests.slow_ways import before, round_by_ticks, sources_in, states_by_ticks
from threemoods import aheads
from threemoods.aheads import ahead, eldest, kin
from threemoods.errors import BadNumber, BadState, BadWeb, TooMany

ODD = (0, 1, 2, 2, 1, 0, 0, 2, 1, 1)
STAR = (10, tuple((0, other) for other in range(1, 10)))
# All who end in one mood: by the two other moods, no more than a third of all states.
MOST_KIN = 3 ** 9


def eldest_by_running(web, state):
    """The greatest number of ticks in which some state becomes a state, or "endless"."""
    if round_by_ticks(web, state, 80)[0] == 0:
        return "endless"
    states = {state}
    for many in itertools.count():
        states = before(web, states)
        if not states:
            return many


def limited(most):
    """A context in which only so many states may become one."""
    return mock.patch.object(aheads, "MOST_STATES", most)


class AheadTest(unittest.TestCase):
    def check(self, web, state):
        answer = ahead(web, state)
        self.assertIsInstance(answer, tuple)
        self.assertEqual(tuple(sorted(sources_in(web).get(state, ()))), answer, (web, state))

    def test_examples_of_the_interface(self):
        self.assertEqual(
            ((1, 2, 1), (1, 2, 2), (2, 1, 2), (2, 2, 1), (2, 2, 2)), ahead(LINE, (2, 2, 2)),
        )

    def test_small_webs(self):
        for web in (*small_webs(4), *unlike_webs(5)):
            for state in all_states(web[0]):
                self.check(web, state)

    def test_greater_webs(self):
        for web in (LOTS, FULL, TAILED):
            for state in itertools.islice(all_states(web[0]), 0, None, 17):
                self.check(web, state)
            for state in ((0,) * web[0], (2,) * web[0], (1, 2) * 4 + (1,) * (web[0] - 8)):
                self.check(web, state)

    def test_what_is_ahead_becomes_the_state(self):
        for web, state in (*WOUND, *random_cases(100, seed=22)):
            states = states_by_ticks(web, state, 6)
            for one, now in itertools.pairwise(states):
                found = ahead(web, now)
                self.assertIn(one, found)
                self.assertEqual(sorted(set(found)), list(found))
                for other in found:
                    self.assertEqual(now, states_by_ticks(web, other, 1)[1])

    def test_values(self):
        self.assertEqual((), ahead(LINE, (0, 1, 2)))
        self.assertEqual(((2,),), ahead(ALONE, (2,)))
        self.assertEqual((ODD,), ahead(LOOSE, ODD))
        self.assertEqual(((2, 0, 1),), ahead(THREE, (0, 1, 2)))
        # All of them were 0 or 2, but not all 2.
        self.assertEqual(1023, len(ahead(FULL, (0,) * 10)))


class EldestTest(unittest.TestCase):
    def test_examples_of_the_interface(self):
        self.assertEqual(0, eldest(LINE, (0, 1, 2)))
        self.assertEqual("endless", eldest(LINE, (2, 2, 2)))

    def test_small_webs(self):
        for web in (*small_webs(4), *unlike_webs(5)):
            for state in all_states(web[0]):
                self.assertEqual(eldest_by_running(web, state), eldest(web, state), (web, state))

    def test_greater_webs(self):
        for web in (LOTS, TAILED):
            for state in itertools.islice(all_states(web[0]), 0, None, 1999):
                for now in states_by_ticks(web, state, 6)[::2]:
                    self.assertEqual(eldest_by_running(web, now), eldest(web, now), (web, now))

    def test_endless_if_it_comes_back_to_itself(self):
        for web, state in (*WOUND, *random_cases(60, seed=23), (STAR, ODD), (FULL, ODD)):
            first, period = round_by_ticks(web, state)
            states = states_by_ticks(web, state, first + period)
            for tick, now in enumerate(states):
                if tick >= first:
                    self.assertEqual("endless", eldest(web, now), (web, now))
                else:
                    self.assertIs(int, eldest(web, now).__class__)
                    self.assertGreaterEqual(eldest(web, now), tick)

    def test_long_lines(self):
        up = (0, 1, 2, 0, 1, 2, 0, 1, 2, 0)
        states = states_by_ticks(line_of(10), up, 9)
        for tick in range(9):
            self.assertEqual(tick, eldest(line_of(10), states[tick]))
        self.assertEqual("endless", eldest(line_of(10), states[9]))


class KinTest(unittest.TestCase):
    def check(self, web, state, most):
        states = {state}
        for many in range(most + 1):
            self.assertEqual(len(states), kin(web, state, many), (web, state, many))
            states = before(web, states)

    def test_examples_of_the_interface(self):
        self.assertEqual(5, kin(LINE, (2, 2, 2), 1))

    def test_small_webs(self):
        for web in (*small_webs(4), *unlike_webs(5)):
            for state in all_states(web[0]):
                self.check(web, state, 3)

    def test_many_ticks(self):
        for web in (*small_webs(3), *unlike_webs(4)):
            for state in itertools.islice(all_states(web[0]), 0, None, 5):
                self.check(web, state, 12)
        for web in (FOUR, THREE, LINE):
            self.check(web, (0, 1, 2, 2)[:web[0]], 100)
            self.check(web, (1,) * web[0], 100)

    def test_greater_webs(self):
        for web in (LOTS, TAILED):
            for state in ((0,) * web[0], (0, 1, 2) * 3 + (2,) * (web[0] - 9), ODD[:web[0]]):
                for now in states_by_ticks(web, state, 12)[::6]:
                    self.check(web, now, 6)

    def test_values(self):
        self.assertEqual(1, kin(LOOSE, ODD, 100))
        self.assertEqual(1, kin(THREE, (0, 1, 2), 100))
        self.assertEqual(0, kin(LINE, (0, 1, 2), 1))
        self.assertEqual(1, kin(LINE, (0, 1, 2), 0))
        self.assertEqual(0, kin(LINE, (0, 1, 2), 100))
        # On a line all end in one of three moods, and each mood is as good as another.
        self.assertEqual(9, kin(LINE, (2, 2, 2), 100))
        self.assertEqual(1023, kin(FULL, (1,) * 10, 100))

    def test_the_parts_are_free_of_one_another(self):
        state = (0, 1, 2) + (0,) * 7
        for many in (0, 1, 2, 5, 30):
            self.assertEqual(kin(ring_of(7), (0,) * 7, many), kin(APART, state, many))


class TooManyTest(Asking, unittest.TestCase):
    def test_as_many_as_can_be_are_not_too_many(self):
        # Turned alike, the same states become the state turned: never more than a third.
        for web, mood, many in ((line_of(10), 0, 100), (line_of(10), 1, 9), (STAR, 2, 20)):
            self.assertEqual(MOST_KIN, kin(web, (mood,) * 10, many))
            self.assertEqual("endless", eldest(web, (mood,) * 10))
        self.assertEqual(20000, aheads.MOST_STATES)
        self.assertLess(MOST_KIN, aheads.MOST_STATES)

    def test_kin_only_within_so_many_ticks(self):
        line, zeros = line_of(8), (0,) * 8
        counts = [kin(line, zeros, many) for many in range(8)]
        self.assertEqual(sorted(set(counts)), counts)
        for many in range(7):
            with limited(counts[many]):
                self.assertEqual(counts[many], kin(line, zeros, many))
                error = self.raises(TooMany, kin, line, zeros, many + 1)
                self.assertEqual(counts[many], error.most)
                self.raises(TooMany, kin, line, zeros, 100)
        with limited(counts[7]):
            self.assertEqual(3 ** 7, kin(line, zeros, 100))

    def test_kin_even_if_they_grow_fewer_again(self):
        state = (2, 2, 2, 1, 1, 1)
        counts = [kin(line_of(6), state, many) for many in range(8)]
        self.assertEqual(0, counts[-1])
        with limited(max(counts) - 1):
            self.raises(TooMany, kin, line_of(6), state, 7)
            self.raises(TooMany, eldest, line_of(6), state)
        with limited(max(counts)):
            self.assertEqual(0, kin(line_of(6), state, 7))
            self.assertEqual(counts.index(0) - 1, eldest(line_of(6), state))

    def test_eldest_only_where_it_is_not_endless(self):
        with limited(1):
            self.assertEqual("endless", eldest(LINE, (2, 2, 2)))
            self.raises(TooMany, kin, LINE, (2, 2, 2), 1)
            self.assertEqual("endless", eldest(THREE, (0, 0, 0)))
            self.assertEqual(2, len(ahead(LINE, (1, 2, 2))))
            self.assertEqual(1, self.raises(TooMany, eldest, LINE, (1, 2, 2)).most)
        with limited(2):
            self.assertEqual(1, eldest(LINE, (1, 2, 2)))

    def test_all_other_errors_come_first(self):
        with limited(2):
            self.raises(TooMany, kin, LINE, (2, 2, 2), 100)
            self.raises(BadNumber, kin, LINE, (2, 2, 2), 101)
            self.raises(BadNumber, kin, LINE, (2, 2, 2), "1")
            self.raises(BadState, kin, LINE, (2, 2, 3), 100)
            self.raises(BadWeb, kin, (3, ((0, 1), (1, 2), None)), (2, 2, 2), 100)
            self.raises(BadState, eldest, LINE, [1, 2, 2])
            self.raises(BadWeb, eldest, (3, ((0, 1), (1, 2), None)), (1, 2, 2))


class WrongArgumentsTest(Asking, unittest.TestCase):
    def test_no_numbers(self):
        for value in (-1, 101, True, False, "1", None, 1000, *wrong_numbers(0, 100)):
            for web, state in ((ALONE, (0,)), (LINE, (0, 1, 2)), (LINE, (2, 2, 2)), (LOOSE, ODD)):
                self.raises(BadNumber, kin, web, state, value)

    def test_indexes_of_wrong_webs(self):
        for value, index in wrong_webs():
            self.assertEqual(index, self.raises(BadWeb, ahead, value, (0, 1, 2)).index)
            self.assertEqual(index, self.raises(BadWeb, eldest, value, (0, 1, 2)).index)
            self.assertEqual(index, self.raises(BadWeb, kin, value, (0, 1, 2), 1).index)

    def test_the_leftmost_argument_comes_first(self):
        webs = (LINE, BadWeb, [value for value, _ in wrong_webs()])
        states = ((0, 1, 2), BadState, wrong_states(3))
        self.tells_leftmost(ahead, webs, states)
        self.tells_leftmost(eldest, webs, states)
        self.tells_leftmost(kin, webs, states, (2, BadNumber, wrong_numbers(0, 100)))


class ArgumentsTest(Asking, unittest.TestCase):
    def test_arguments_are_left_as_they_are(self):
        for web in (LINE, THREE, [3, [[0, 1]]]):
            for state in ((0, 1, 2), (2, 2, 2), [0, 1, 2], (0, [1], 2)):
                self.keeps(ahead, web, state)
                self.keeps(eldest, web, state)
                self.keeps(kin, web, state, 2)
                self.keeps(kin, web, state, [2])


if __name__ == "__main__":
    unittest.main()
