import itertools
import unittest
from fractions import Fraction
from math import gcd

from tests.samples import (
    ALONE, APART, FOUR, FULL, HALVES, LINE, LOOSE, LOTS, MIXED, SHARED, TAILED, THREE, WOUND, Asking,
    all_states, line_of, random_cases, ring_of, small_webs, unlike_webs, wrong_folk, wrong_states,
    wrong_webs,
)
from tests.slow_ways import (
    COUNTS, changes_by_ticks, neighbours_in, parts_in, rings_in, states_by_ticks, sum_round,
)
from threemoods.errors import BadFolk, BadState, BadWeb
from threemoods.speeds import busy_ring, judged_speed, speed, speed_paper
from threemoods.walks import changes

ODD = (0, 1, 2, 2, 1, 0, 0, 2, 1, 1)
CALM = ((LOOSE, ODD), (line_of(10), ODD), (ALONE, (2,)), (LOTS, ODD[:9]))


def small_cases():
    """All states of all webs of up to four folk, and some of unlike ones of five."""
    for web in small_webs(4):
        for state in all_states(web[0]):
            yield web, state
    for web in unlike_webs(5):
        for state in itertools.islice(all_states(5), 0, None, 4):
            yield web, state


def speeds_by_rings(web, state):
    """The greatest of 0 and of the rings' sums by their lengths, for each of the folk."""
    found = [Fraction(0)] * web[0]
    for ring in rings_in(web):
        for lot in parts_in(web):
            if ring[0] in lot:
                for one in lot:
                    found[one] = max(found[one], Fraction(sum_round(state, ring), len(ring)))
    return found


class SpeedTest(Asking, unittest.TestCase):
    def check(self, web, state, expected):
        found = speed(web, state)
        self.assertIsInstance(found, tuple)
        for pair in found:
            self.assertIsInstance(pair, tuple)
            self.assertEqual([int, int], [number.__class__ for number in pair])
        # A Fraction is in lowest terms, its bottom above 0.
        self.assertEqual(
            tuple((part.numerator, part.denominator) for part in expected), found, (web, state),
        )

    def test_examples_of_the_interface(self):
        self.assertEqual(((1, 1), (1, 1), (1, 1)), speed(THREE, (0, 1, 2)))
        self.assertEqual(((3, 4), (3, 4), (3, 4), (3, 4)), speed(FOUR, (0, 1, 2, 2)))
        self.assertIsNone(busy_ring(THREE, (0, 0, 1), 0))
        paper = (((0, 1, 2),), ((0, 1),) * 3)
        self.judges(True, judged_speed, THREE, (0, 1, 2), ((1, 1),) * 3, paper)

    def test_small_webs_by_all_rings(self):
        for web, state in small_cases():
            self.check(web, state, speeds_by_rings(web, state))

    def test_greater_webs_by_all_rings(self):
        for web, state in (*WOUND, *CALM):
            self.check(web, state, speeds_by_rings(web, state))
        for web, state in random_cases(150, seed=8):
            if len(web[1]) < 14:
                self.check(web, state, speeds_by_rings(web, state))

    def test_changes_after_very_many_ticks(self):
        # A number of ticks that each number of folk up to ten divides.
        later = 2520 * 10 ** 26
        crowded = ((FULL, (1,) * 10), (FULL, ODD))
        for web, state in (*WOUND, *CALM, *crowded, *random_cases(150, seed=9)):
            gains = [
                Fraction(count - early, later) for early, count in
                zip(changes(web, state, 5040), changes(web, state, 5040 + later))
            ]
            self.check(web, state, gains)

    def test_changes_by_ticks(self):
        # All rings of up to five folk come round within sixty ticks.
        for web in (*unlike_webs(4), *unlike_webs(5)):
            for state in itertools.islice(all_states(web[0]), 0, None, 5):
                counts = changes_by_ticks(states_by_ticks(web, state, 90))
                gains = [Fraction(late - early, 60) for early, late in zip(counts[30], counts[90])]
                self.check(web, state, gains)

    def test_rings_of_ten(self):
        for many in range(3, 11):
            for wound in range(many // 3 + 1):
                state = tuple(one * 3 * wound // many % 3 for one in range(many))
                self.check(ring_of(many), state, [Fraction(3 * wound, many)] * many)

    def test_unlike_speeds_in_one_web(self):
        three, six, none = Fraction(1), Fraction(6, 7), Fraction(0)
        self.check(APART, (0, 1, 2, 0, 1, 2, 0, 1, 2, 0), [three] * 3 + [six] * 7)
        self.check(APART, (0, 0, 1, 0, 0, 1, 1, 2, 2, 2), [none] * 3 + [Fraction(3, 7)] * 7)
        self.check(APART, (0, 2, 1, 0, 0, 0, 0, 0, 0, 0), [three] * 3 + [none] * 7)

    def test_the_fastest_ring_of_a_part_counts(self):
        # The rings of 4 and of 7 are wound once, and then that of 7 twice.
        self.check(SHARED, (0, 1, 2, 2, 0, 1, 1, 2, 2, 2), [Fraction(3, 4)] * 10)
        self.check(SHARED, (0, 1, 2, 2, 1, 2, 0, 1, 2, 0), [Fraction(6, 7)] * 10)
        self.check(SHARED, (0, 0, 0, 0, 1, 1, 1, 2, 2, 2), [Fraction(3, 7)] * 10)
        # The rings of 3 and of 5, and that of 5 alone.
        self.check(TAILED, (0, 1, 2, 1, 2, 2, 2, 2, 1, 0), [Fraction(1)] * 10)
        self.check(TAILED, (0, 1, 1, 1, 2, 2, 2, 0, 1, 2), [Fraction(3, 5)] * 10)

    def test_folk_of_parts_that_are_mixed(self):
        found = speeds_by_rings(MIXED, (0, 0, 0, 1, 1, 1, 2, 2, 2, 2))
        self.assertEqual({Fraction(0), Fraction(3, 4), Fraction(1)}, set(found))
        self.check(MIXED, (0, 0, 0, 1, 1, 1, 2, 2, 2, 2), found)
        found = speeds_by_rings(HALVES, (0, 0, 1, 1, 2, 2, 2, 2, 2, 2))
        self.check(HALVES, (0, 0, 1, 1, 2, 2, 2, 2, 2, 2), found)


class BusyRingTest(unittest.TestCase):
    def check(self, web, state):
        found = speeds_by_rings(web, state)
        for one in range(web[0]):
            ring = busy_ring(web, state, one)
            if found[one] == 0:
                self.assertIsNone(ring, (web, state, one))
            else:
                self.assertIn(ring, rings_in(web), (web, state, one))
                lot = [lot for lot in parts_in(web) if one in lot][0]
                self.assertIn(ring[0], lot)
                self.assertEqual(found[one], Fraction(sum_round(state, ring), len(ring)))

    def test_small_webs(self):
        for web, state in small_cases():
            self.check(web, state)

    def test_greater_webs(self):
        for web, state in (*WOUND, *CALM):
            self.check(web, state)
        for web, state in random_cases(100, seed=10):
            if len(web[1]) < 14:
                self.check(web, state)

    def test_one_need_not_be_in_the_ring(self):
        ring = busy_ring(TAILED, (0, 1, 2, 1, 2, 2, 2, 2, 1, 0), 9)
        self.assertIn(ring, ((0, 1, 2), (1, 2, 0), (2, 0, 1)))

    def test_the_ring_of_the_part_of_one(self):
        state = (0, 1, 2, 0, 0, 0, 1, 1, 2, 2)
        self.assertEqual({0, 1, 2}, set(busy_ring(APART, state, 2)))
        self.assertEqual({3, 4, 5, 6, 7, 8, 9}, set(busy_ring(APART, state, 6)))
        for one in range(3, 10):
            self.assertIsNone(busy_ring(APART, (0, 1, 2) + (0,) * 7, one))


class SpeedPaperTest(Asking, unittest.TestCase):
    def check(self, web, state):
        paper = speed_paper(web, state)
        self.assertIsInstance(paper, tuple)
        rings, roof = paper
        self.assertIsInstance(rings, tuple)
        self.assertIsInstance(roof, tuple)
        found = [Fraction(*pair) for pair in speed(web, state)]
        lots = parts_in(web)
        self.assertEqual((len(lots), web[0]), (len(rings), len(roof)))
        for lot, ring in zip(lots, rings):
            if found[lot[0]] == 0:
                self.assertIsNone(ring)
            else:
                self.assertTrue(set(ring) <= set(lot), (web, state))
                self.assertTrue(len(ring) == len(set(ring)) >= 3)
                for one, other in zip(ring, ring[1:] + ring[:1]):
                    self.assertIn(other, neighbours_in(web)[one])
                self.assertEqual(found[lot[0]], Fraction(sum_round(state, ring), len(ring)))
        for top, bottom in roof:
            self.assertTrue(bottom > 0 and gcd(top, bottom) == 1, (web, state))
        for one, near in enumerate(neighbours_in(web)):
            for other in (one, *near):
                room = found[one] + Fraction(*roof[one]) - Fraction(*roof[other])
                self.assertLessEqual(COUNTS[state[one], state[other]], room, (web, state))
        self.judges(True, judged_speed, web, state, speed(web, state), paper)

    def test_small_webs(self):
        for web, state in small_cases():
            self.check(web, state)

    def test_greater_webs(self):
        crowded = ((FULL, (1,) * 10), (FULL, ODD))
        for web, state in (*WOUND, *CALM, *crowded, *random_cases(150, seed=11)):
            self.check(web, state)

    def test_rings_in_the_sequence_of_the_parts(self):
        rings, _ = speed_paper(MIXED, (0, 0, 0, 1, 1, 1, 2, 2, 2, 2))
        self.assertEqual({0, 3, 9}, set(rings[0]))
        self.assertEqual({1, 4, 7, 8}, set(rings[1]))
        self.assertIsNone(rings[2])
        rings, roof = speed_paper(LOOSE, ODD)
        self.assertEqual((None,) * 10, rings)
        self.assertEqual(10, len(roof))


class WrongArgumentsTest(Asking, unittest.TestCase):
    def test_no_folk(self):
        for web, state in ((ALONE, (0,)), (THREE, (0, 1, 2)), (LOOSE, ODD)):
            for value in wrong_folk(web[0]):
                self.raises(BadFolk, busy_ring, web, state, value)

    def test_indexes_of_wrong_webs(self):
        for value, index in wrong_webs():
            for function in (speed, speed_paper):
                self.assertEqual(index, self.raises(BadWeb, function, value, (0, 1, 2)).index)
            self.assertEqual(index, self.raises(BadWeb, busy_ring, value, (0, 1, 2), 0).index)
            error = self.raises(BadWeb, judged_speed, value, (0, 1, 2), None, None)
            self.assertEqual(index, error.index)

    def test_the_leftmost_argument_comes_first(self):
        rows = (
            (THREE, BadWeb, [value for value, _ in wrong_webs()]),
            ((0, 1, 2), BadState, wrong_states(3)),
        )
        self.tells_leftmost(speed, *rows)
        self.tells_leftmost(speed_paper, *rows)
        self.tells_leftmost(busy_ring, *rows, (0, BadFolk, wrong_folk(3)))
        for speeds, value in (
            (((1, 1),) * 3, (((0, 1, 2),), ((0, 1),) * 3)), (None, None), ([0], True), ((), ()),
        ):
            self.tells_leftmost(lambda *arguments: judged_speed(*arguments, speeds, value), *rows)


class ArgumentsTest(Asking, unittest.TestCase):
    def test_arguments_are_left_as_they_are(self):
        for web in (LINE, THREE, [3, [[0, 1]]]):
            for state in ((0, 1, 2), [0, 1, 2], (0, [1], 2)):
                self.keeps(speed, web, state)
                self.keeps(speed_paper, web, state)
                self.keeps(busy_ring, web, state, 1)
                self.keeps(busy_ring, web, state, [1])
                self.keeps(judged_speed, web, state, [[1, 1]] * 3, [[[0, 1, 2]], [[0, 1]] * 3])
                self.keeps(judged_speed, web, state, ((1, 1),) * 3, ([(0, 1, 2)], [(0, 1)] * 3))
                self.keeps(judged_speed, web, state, ((1, 1),) * 3, (([0, 1, 2],), ([0, 1],) * 3))


if __name__ == "__main__":
    unittest.main()
