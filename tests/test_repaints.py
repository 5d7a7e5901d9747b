import itertools
import unittest

from tests.samples import (
    ALONE, APART, BRIDGED, FOUR, FULL, HALVES, LINE, LOOSE, LOTS, MIXED, SHARED, TAILED, THREE,
    WOUND, Asking, all_states, line_of, random_cases, ring_of, small_webs, unlike_webs,
    wrong_states, wrong_webs,
)
from tests.slow_ways import rests_in
from threemoods.errors import BadState, BadWeb
from threemoods.repaints import calmed, stirring
from threemoods.rests import rests

ODD = (0, 1, 2, 2, 1, 0, 0, 2, 1, 1)
# A ladder of three rings of 4; two rings of 4, each a part of its own.
GRID = (8, ((0, 1), (0, 4), (1, 2), (1, 5), (2, 3), (2, 6), (3, 7), (4, 5), (5, 6), (6, 7)))
PAIRED = (8, ((0, 1), (0, 3), (1, 2), (2, 3), (4, 5), (4, 7), (5, 6), (6, 7)))


def all_paints(state, lot):
    """All states in which some folk have any moods, the others their own."""
    for moods in itertools.product(range(3), repeat=len(lot)):
        painted = list(state)
        for one, mood in zip(lot, moods):
            painted[one] = mood
        yield tuple(painted)


def fewest_by_all(state, asked):
    """The lots of as few folk as can be of whom some moods make a state one asked for."""
    for size in range(len(state) + 1):
        lots = [
            lot for lot in itertools.combinations(range(len(state)), size)
            if any(map(asked, all_paints(state, lot)))
        ]
        if lots:
            return tuple(lots)
    return ()


class RepaintsTest(unittest.TestCase):
    def check(self, web, state, resting):
        """Check both functions by all lots and moods; resting tells which states rest."""
        found = calmed(web, state)
        self.assertIsInstance(found, tuple)
        self.assertEqual(fewest_by_all(state, resting), found, (web, state))
        self.assertLessEqual(len(found[0]), web[0] // 3)
        stirs = stirring(web, state)
        self.assertIsInstance(stirs, tuple)
        if stirs:
            self.assertLessEqual(len(stirs[0]), 2)
            expected = fewest_by_all(state, lambda now: not resting(now))
            self.assertEqual(expected, stirs, (web, state))
        return stirs

    def check_small(self, web, states):
        some_wind = len(rests_in(web)) < 3 ** web[0]
        for state in states:
            stirs = self.check(web, state, rests_in(web).__contains__)
            self.assertEqual(some_wind, stirs != (), (web, state))
            self.assertEqual(state in rests_in(web), calmed(web, state) == ((),))
            self.assertEqual(state not in rests_in(web), stirs == ((),))

    def test_small_webs(self):
        for web in small_webs(4):
            self.check_small(web, all_states(web[0]))
        for web in unlike_webs(5):
            self.check_small(web, itertools.islice(all_states(5), 0, None, 4))

    def test_webs_of_eight_and_nine_folk(self):
        for web in (GRID, PAIRED, LOTS, ring_of(8)):
            self.check_small(web, itertools.islice(all_states(web[0]), 5, None, 487))

    def test_greater_webs(self):
        for web, state in (*WOUND[::2], (FULL, ODD), (ring_of(10), ODD), (ring_of(9), (0, 1, 2) * 3)):
            self.check(web, state, lambda now: rests(web, now))
        for web, state in random_cases(20, seed=51):
            self.check(web, state, lambda now: rests(web, now))

    def test_no_more_than_a_third_and_no_more_than_two(self):
        for web, state in (*WOUND, *random_cases(150, seed=52)):
            self.assertLessEqual(len(calmed(web, state)[0]), web[0] // 3)
            for lot in stirring(web, state):
                self.assertLessEqual(len(lot), 2)


class CalmedTest(unittest.TestCase):
    def test_examples_of_the_interface(self):
        self.assertEqual(((0,), (1,), (2,)), calmed(THREE, (0, 1, 2)))
        self.assertEqual(((),), calmed(THREE, (0, 0, 1)))

    def test_nobody_need_change(self):
        for web in (ALONE, LINE, LOOSE, line_of(10), FULL, LOTS):
            self.assertEqual(((),), calmed(web, (2,) * web[0]))
        self.assertEqual(((),), calmed(line_of(10), ODD))
        self.assertEqual(((),), calmed(FULL, (0, 1) * 5))

    def test_a_third_of_all(self):
        nine = (9, tuple(itertools.combinations(range(9), 2)))
        self.assertEqual(
            ((0, 3, 6), (1, 4, 7), (2, 5, 8)), calmed(nine, (0, 1, 2) * 3),
        )
        self.assertEqual(((1, 4, 7), (2, 5, 8)), calmed(FULL, (0, 1, 2) * 3 + (0,)))
        self.assertEqual(((0,),), calmed(FULL, (0,) + (1, 2) * 4 + (2,)))

    def test_each_wound_part_needs_somebody(self):
        self.assertEqual(
            tuple(itertools.product(range(4), range(4, 8))), calmed(PAIRED, (0, 1, 2, 2) * 2),
        )
        self.assertEqual(((0,), (1,), (2,)), calmed(APART, (0, 1, 2) + (0,) * 7))


class StirringTest(unittest.TestCase):
    def test_examples_of_the_interface(self):
        self.assertEqual(((0,), (1,)), stirring(THREE, (0, 0, 1)))
        self.assertEqual((), stirring(LINE, (0, 0, 0)))

    def test_no_ring(self):
        for web in (ALONE, LINE, LOOSE, line_of(10), (10, tuple((0, k) for k in range(1, 10)))):
            self.assertEqual((), stirring(web, (0,) * web[0]))
            self.assertEqual((), stirring(web, ODD[:web[0]]))

    def test_those_who_never_rest(self):
        for web, state in ((THREE, (0, 1, 2)), (FOUR, (0, 1, 2, 2)), (FULL, ODD), *WOUND[:3]):
            self.assertEqual(((),), stirring(web, state))

    def test_two_are_needed_where_all_are_alike(self):
        for web in (THREE, FOUR, FULL, ring_of(10), SHARED, TAILED, BRIDGED, MIXED, HALVES):
            for mood in range(3):
                found = stirring(web, (mood,) * web[0])
                self.assertEqual({2}, {len(lot) for lot in found}, web)
        self.assertEqual(
            tuple(itertools.combinations(range(10), 2)), stirring(FULL, (1,) * 10),
        )
        # Two of a ring of three have to be painted; two of one of ten only side by side.
        self.assertEqual(((0, 1), (0, 2), (1, 2)), stirring(THREE, (0, 0, 0)))
        self.assertEqual(tuple(sorted(ring_of(10)[1])), stirring(ring_of(10), (0,) * 10))


class WrongArgumentsTest(Asking, unittest.TestCase):
    def test_no_states(self):
        for function in (calmed, stirring):
            for web in (ALONE, LINE, THREE, LOOSE):
                for value in wrong_states(web[0]):
                    self.raises(BadState, function, web, value)

    def test_indexes_of_wrong_webs(self):
        for function in (calmed, stirring):
            for value, index in wrong_webs():
                self.assertEqual(index, self.raises(BadWeb, function, value, (0, 1, 2)).index)

    def test_the_leftmost_argument_comes_first(self):
        for function in (calmed, stirring):
            for web in (LINE, THREE):
                self.tells_leftmost(
                    function, (web, BadWeb, [value for value, _ in wrong_webs()]),
                    ((0, 1, 2), BadState, wrong_states(3)),
                )


class ArgumentsTest(Asking, unittest.TestCase):
    def test_arguments_are_left_as_they_are(self):
        for function in (calmed, stirring):
            for web in (LINE, THREE, [3, [[0, 1]]]):
                for state in ((0, 1, 2), (0, 0, 1), [0, 1, 2], (0, [1], 2)):
                    self.keeps(function, web, state)


if __name__ == "__main__":
    unittest.main()
