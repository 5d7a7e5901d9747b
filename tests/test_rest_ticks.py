import unittest

from tests.samples import (
    ALONE, APART, FOUR, FULL, LINE, LOOSE, LOTS, THREE, WOUND, Asking, all_states, line_of,
    random_cases, ring_of, small_webs, unlike_webs, wrong_folk, wrong_states, wrong_webs,
)
from tests.slow_ways import changes_by_ticks, parts_in, rest_by_ticks, states_by_ticks
from threemoods.errors import BadFolk, BadState, BadWeb, NotResting
from threemoods.rests import deciders, end, rest_tick, sway

ODD = (0, 1, 2, 2, 1, 0, 0, 2, 1, 1)
ASKED = (rest_tick, end, deciders)


def greater_cases():
    """Webs of seven to ten folk with states, some of which come to rest."""
    webs = (line_of(10), ring_of(10), FULL, LOOSE, APART)
    states = ((0,) * 10, (0, 1) * 5, (1, 1, 2, 2, 2) * 2, ODD, (0, 0, 1) * 3 + (0,))
    yield from ((web, state) for web in webs for state in states)
    yield from ((LOTS, state[:9]) for state in states)
    yield from random_cases(300, seed=6)
    yield from WOUND


class RestTest(Asking, unittest.TestCase):
    def check(self, web, state):
        """Check the answers against running; return whether the state comes to rest."""
        found = rest_by_ticks(web, state)
        if found is None:
            for function in ASKED:
                self.raises(NotResting, function, web, state)
            return False
        self.assertEqual(found, (rest_tick(web, state), end(web, state)), (web, state))
        counts = changes_by_ticks(states_by_ticks(web, state, 30))[-1]
        # One whose height is 0 is just one who never changes.
        stayed = tuple(one for one, count in enumerate(counts) if count == 0)
        self.assertEqual(stayed, deciders(web, state), (web, state))
        for lot in parts_in(web):
            moods = {state[one] for one in lot if one in stayed}
            self.assertEqual(moods, {found[1][one] for one in lot}, (web, state))
        return True

    def test_examples_of_the_interface(self):
        self.assertEqual(2, rest_tick(LINE, (0, 1, 2)))
        self.assertEqual((2, 2, 2), end(LINE, (0, 1, 2)))
        self.assertEqual((2,), deciders(LINE, (0, 1, 2)))
        self.raises(NotResting, rest_tick, THREE, (0, 1, 2))

    def test_small_webs(self):
        for web in (*small_webs(4), *unlike_webs(5)):
            for state in all_states(web[0]):
                self.check(web, state)

    def test_greater_webs(self):
        resting = [self.check(web, state) for web, state in greater_cases()]
        self.assertGreater(resting.count(True), 50)
        self.assertGreater(resting.count(False), 50)

    def test_still_states(self):
        for web in (ALONE, LINE, THREE, FULL, LOOSE, LOTS):
            for mood in range(3):
                state = (mood,) * web[0]
                self.assertEqual(0, rest_tick(web, state))
                self.assertEqual(state, end(web, state))
                self.assertEqual(tuple(range(web[0])), deciders(web, state))
        self.assertEqual(0, rest_tick(LOOSE, ODD))
        self.assertEqual(ODD, end(LOOSE, ODD))
        self.assertEqual(tuple(range(10)), deciders(LOOSE, ODD))

    def test_each_part_has_its_own_end(self):
        web = (6, ((0, 1), (1, 2), (3, 4)))
        state = (0, 1, 2, 0, 2, 1)
        self.assertEqual(2, rest_tick(web, state))
        self.assertEqual((2, 2, 2, 0, 0, 1), end(web, state))
        self.assertEqual((2, 3, 5), deciders(web, state))

    def test_the_latest_rest(self):
        up = (0, 1, 2, 0, 1, 2, 0, 1, 2, 0)
        self.assertEqual(9, rest_tick(line_of(10), up))
        self.assertEqual((0,) * 10, end(line_of(10), up))
        self.assertEqual((9,), deciders(line_of(10), up))
        self.assertEqual((0,), deciders(line_of(10), up[::-1]))
        # The last one to change is reached by one who is far away.
        self.assertEqual(9, rest_tick(line_of(10), (0, 0, 0, 0, 0, 0, 0, 0, 0, 1)))

    def test_one_part_that_never_rests_is_enough(self):
        for function in ASKED:
            self.raises(NotResting, function, APART, (0, 1, 2) + (0,) * 7)
            self.raises(NotResting, function, (4, THREE[1]), (0, 1, 2, 0))
            self.raises(NotResting, function, APART, (0, 0, 0, 0, 1, 1, 1, 2, 2, 2))

    def test_values(self):
        self.assertIs(int, rest_tick(LINE, (0, 1, 2)).__class__)
        self.assertIsInstance(end(LINE, (0, 1, 2)), tuple)
        self.assertIsInstance(deciders(LINE, (0, 1, 2)), tuple)


class SwayTest(Asking, unittest.TestCase):
    def check(self, web, state):
        for one in range(web[0]):
            ends = []
            for mood in range(3):
                found = rest_by_ticks(web, state[:one] + (mood,) + state[one + 1:])
                ends.append(None if found is None else found[1])
            answer = sway(web, state, one)
            self.assertIsInstance(answer, tuple)
            self.assertEqual(tuple(ends), answer, (web, state, one))

    def test_examples_of_the_interface(self):
        self.assertEqual(((1, 1, 1), (1, 1, 1), (2, 2, 2)), sway(LINE, (0, 1, 2), 2))

    def test_states_that_never_rest(self):
        self.assertEqual(((1, 1, 1), (1, 1, 1), None), sway(THREE, (0, 1, 2), 2))
        self.assertEqual(((1, 1, 1), (1, 1, 1), None), sway(THREE, (0, 2, 1), 1))
        self.assertEqual(((0, 0, 0), (1, 1, 1), (0, 0, 0)), sway(THREE, (0, 2, 0), 1))
        self.assertEqual((None,) * 3, sway(APART, (0, 1, 2) + (0,) * 7, 5))

    def test_small_webs(self):
        for web in (*small_webs(3), *unlike_webs(4)):
            for state in all_states(web[0]):
                self.check(web, state)

    def test_greater_webs(self):
        for web, state in (*WOUND, *random_cases(30, seed=7), (line_of(10), ODD), (FULL, ODD)):
            self.check(web, state)


class WrongArgumentsTest(Asking, unittest.TestCase):
    def test_no_folk(self):
        for web, state in ((ALONE, (0,)), (LINE, (0, 1, 2)), (THREE, (0, 1, 2)), (LOOSE, ODD)):
            for value in wrong_folk(web[0]):
                self.raises(BadFolk, sway, web, state, value)

    def test_indexes_of_wrong_webs(self):
        for value, index in wrong_webs():
            for function in ASKED:
                self.assertEqual(index, self.raises(BadWeb, function, value, (0, 1, 2)).index)
            self.assertEqual(index, self.raises(BadWeb, sway, value, (0, 1, 2), 0).index)

    def test_the_leftmost_argument_comes_first(self):
        webs = [value for value, _ in wrong_webs()]
        for function in ASKED:
            self.tells_leftmost(
                function, (LINE, BadWeb, webs), ((0, 1, 2), BadState, wrong_states(3)),
            )
        self.tells_leftmost(
            sway, (THREE, BadWeb, webs), ((0, 1, 2), BadState, wrong_states(3)),
            (0, BadFolk, wrong_folk(3)),
        )

    def test_not_resting_comes_last(self):
        twisted = (3, ((0, 1), (0, 2), (1, 2), (1, 2)))
        for function in ASKED:
            self.assertEqual(3, self.raises(BadWeb, function, twisted, (0, 1, 2)).index)
            self.raises(BadState, function, THREE, (0, 1, 2, 0))
            self.raises(BadState, function, FOUR, (0, 1, 2))
            self.raises(BadState, function, THREE, [0, 1, 2])
            self.raises(NotResting, function, THREE, (0, 1, 2))
            self.raises(NotResting, function, FOUR, (0, 1, 2, 2))


class ArgumentsTest(Asking, unittest.TestCase):
    def test_arguments_are_left_as_they_are(self):
        for web in (LINE, THREE, [3, [[0, 1]]]):
            for state in ((0, 1, 2), [0, 1, 2], (0, [1], 2)):
                for function in ASKED:
                    self.keeps(function, web, state)
                self.keeps(sway, web, state, 1)
                self.keeps(sway, web, state, [1])


if __name__ == "__main__":
    unittest.main()
