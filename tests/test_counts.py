import itertools
import unittest
from fractions import Fraction

from tests.samples import (
    ALONE, APART, BRIDGED, FOUR, FULL, HALVES, LINE, LOOSE, LOTS, MIXED, TAILED, THREE, Asking,
    all_states, line_of, random_cases, ring_of, small_webs, unlike_webs, wrong_webs,
)
from tests.slow_ways import parts_in, rests_in, rings_in, sum_round
from threemoods.alls import all_speeds, calm_for_all, count_by_rest, count_resting, longest_rest
from threemoods.errors import BadWeb, TooMany
from threemoods.rests import rest_tick, rests

ASKED = (count_resting, count_by_rest, all_speeds)
# Rings of 3 and of 4, each a part of its own; the same two with a folk that both hold.
TWO_RINGS = (7, ((0, 1), (0, 2), (1, 2), (3, 4), (3, 6), (4, 5), (5, 6)))
KNOT = (6, ((0, 1), (0, 2), (0, 3), (0, 5), (1, 2), (3, 4), (4, 5)))


def counts_by_states(web):
    """How many states have the rest_tick 0, 1, and so on, by all states."""
    ticks = list(rests_in(web).values())
    return tuple(ticks.count(tick) for tick in range(max(ticks) + 1))


def speeds_by_rings(web, states):
    """The unlike speeds of all folk in some states, by size, by the sums of all rings."""
    found = set()
    for state in states:
        best = {one: Fraction(0) for one in range(web[0])}
        for ring in rings_in(web):
            pace = Fraction(sum_round(state, ring), len(ring))
            best[ring[0]] = max(best[ring[0]], pace)
        for lot in parts_in(web):
            found.add(max(best[one] for one in lot))
    return tuple((pace.numerator, pace.denominator) for pace in sorted(found))


class CountsTest(unittest.TestCase):
    def check(self, web):
        counts = count_by_rest(web)
        self.assertIsInstance(counts, tuple)
        self.assertEqual(counts_by_states(web), counts, web)
        self.check_sums(web)

    def check_sums(self, web):
        counts = count_by_rest(web)
        self.assertEqual(longest_rest(web) + 1, len(counts), web)
        self.assertEqual(sum(counts), count_resting(web), web)
        self.assertGreater(counts[-1], 0, web)
        self.assertEqual(calm_for_all(web), count_resting(web) == 3 ** web[0], web)

    def test_examples_of_the_interface(self):
        self.assertEqual((3, 12, 12), count_by_rest(LINE))
        self.assertEqual(21, count_resting(THREE))

    def test_small_webs(self):
        for web in (*small_webs(4), *unlike_webs(5)):
            self.check(web)

    def test_greater_webs(self):
        for web in (TWO_RINGS, KNOT, ring_of(8), LOTS, TAILED, HALVES):
            self.check(web)
        for web, _ in random_cases(12, seed=41):
            if web[0] < 9:
                self.check(web)

    def test_sums_of_greater_webs(self):
        for web in (FULL, APART, BRIDGED, MIXED, LOOSE, line_of(10), ring_of(10)):
            self.check_sums(web)
        for web, _ in random_cases(60, seed=42):
            self.check_sums(web)

    def test_values(self):
        self.assertEqual((3,), count_by_rest(ALONE))
        self.assertEqual((3 ** 10,), count_by_rest(LOOSE))
        self.assertEqual(3 ** 10, count_resting(line_of(10)))
        # States of two moods at most: of each two 1024, and those of one mood are in two of these.
        self.assertEqual((3, 3 * 1024 - 6), count_by_rest(FULL))
        # Parts are free of one another: a ring of 3 and one of 7.
        self.assertEqual(21 * count_resting(ring_of(7)), count_resting(APART))
        self.assertEqual(count_resting(ring_of(5)) ** 2, count_resting(HALVES))

    def test_just_the_states_that_rest_are_counted(self):
        for web in (FOUR, KNOT, TWO_RINGS):
            states = [state for state in all_states(web[0]) if rests(web, state)]
            self.assertEqual(len(states), count_resting(web))
            ticks = [rest_tick(web, state) for state in states]
            for tick, many in enumerate(count_by_rest(web)):
                self.assertEqual(many, ticks.count(tick))


class AllSpeedsTest(Asking, unittest.TestCase):
    def check(self, web, states):
        answer = all_speeds(web)
        self.assertIsInstance(answer, tuple)
        self.assertEqual(speeds_by_rings(web, states), answer, web)

    def test_examples_of_the_interface(self):
        self.assertEqual(((0, 1), (1, 1)), all_speeds(THREE))
        self.assertEqual(7, self.raises(TooMany, all_speeds, (8, ())).most)

    def test_small_webs(self):
        for web in (*small_webs(4), *unlike_webs(5)):
            # Moods turned alike change no sum of a ring: a third of the states is enough.
            states = [state for state in all_states(web[0]) if len(rings_in(web)) < 60 or state[0] == 0]
            self.check(web, states)

    def test_webs_of_six_and_seven_folk(self):
        for web in (KNOT, TWO_RINGS, ring_of(6), ring_of(7), line_of(7)):
            self.check(web, [state for state in all_states(web[0]) if state[0] == 0])

    def test_values(self):
        self.assertEqual(((0, 1),), all_speeds(ALONE))
        self.assertEqual(((0, 1),), all_speeds(line_of(7)))
        self.assertEqual(((0, 1),), all_speeds((7, ())))
        self.assertEqual(((0, 1), (3, 7), (6, 7)), all_speeds(ring_of(7)))
        self.assertEqual(((0, 1), (1, 2), (1, 1)), all_speeds(ring_of(6)))
        self.assertEqual(((0, 1), (3, 4), (1, 1)), all_speeds(TWO_RINGS))
        full = (7, tuple(itertools.combinations(range(7), 2)))
        self.assertEqual(((0, 1), (1, 1)), all_speeds(full))
        # A ring of seven with a chord to a ring of five: 3 of 7, 3 of 5, 6 of 7.
        chord = (7, tuple(sorted(ring_of(7)[1] + ((0, 4),))))
        self.assertIn((3, 5), all_speeds(chord))
        sizes = [Fraction(*pace) for pace in all_speeds(chord)]
        self.assertEqual(sorted(set(sizes)), sizes)

    def test_too_many_folk(self):
        for web in ((8, ()), line_of(8), ring_of(9), FULL, LOOSE, LOTS):
            self.assertEqual(7, self.raises(TooMany, all_speeds, web).most)
        self.assertEqual(0, self.raises(BadWeb, all_speeds, (8, ((0, 0),))).index)
        self.assertIsNone(self.raises(BadWeb, all_speeds, (11, ())).index)
        self.assertEqual(1, self.raises(BadWeb, all_speeds, (10, ((0, 1), (0, 1)))).index)


class WrongArgumentsTest(Asking, unittest.TestCase):
    def test_indexes_of_wrong_webs(self):
        for value, index in wrong_webs():
            for function in ASKED:
                self.assertEqual(index, self.raises(BadWeb, function, value).index)


class ArgumentsTest(Asking, unittest.TestCase):
    def test_arguments_are_left_as_they_are(self):
        for web in (LINE, THREE, (8, ()), [3, [[0, 1]]], (3, [[0, 1]])):
            for function in ASKED:
                self.keeps(function, web)


if __name__ == "__main__":
    unittest.main()
