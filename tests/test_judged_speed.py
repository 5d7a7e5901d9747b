import itertools
import unittest
from fractions import Fraction

from tests.samples import (
    ALONE, APART, FOUR, LINE, LOOSE, MIXED, SHARED, TAILED, THREE, WOUND, Asking, all_states,
    random_cases, small_webs, unlike_webs,
)
from tests.slow_ways import COUNTS, neighbours_in, parts_in, rings_in, sum_round
from threemoods.speeds import judged_speed, speed, speed_paper

FAR = 10 ** 30
ZERO = (0, 1)


def pair_of(fraction):
    """A fraction as the pair that the document means."""
    return fraction.numerator, fraction.denominator


def moved(roof, lot, by):
    """A roof with the fractions of some folk raised by a fraction."""
    return tuple(
        pair_of(Fraction(*pair) + by) if one in lot else pair for one, pair in enumerate(roof)
    )


def other_roof(web, state):
    """A roof from below: less the greatest sums, each step less the speed, of walks to each."""
    paces = [Fraction(*pair) for pair in speed(web, state)]
    tops = [Fraction(0)] * web[0]
    for _ in range(web[0]):
        tops = [
            max([tops[one]] + [
                tops[ahead] + COUNTS[state[ahead], state[one]] - paces[one] for ahead in near
            ])
            for one, near in enumerate(neighbours_in(web))
        ]
    return tuple(pair_of(-top) for top in tops)


def half_way(roof, other):
    """The roof half way between two."""
    return tuple(
        pair_of((Fraction(*one) + Fraction(*two)) / 2) for one, two in zip(roof, other)
    )


def holds(web, state, roof):
    """Whether fractions are a roof for the speeds of a state."""
    paces = [Fraction(*pair) for pair in speed(web, state)]
    return all(
        COUNTS[state[one], state[other]] <= paces[one] + Fraction(*roof[one]) - Fraction(*roof[other])
        for one, near in enumerate(neighbours_in(web)) for other in near
    )


def small_cases():
    """Some states of all webs of up to four folk, and of unlike ones of five."""
    for web in (*small_webs(3), *unlike_webs(4), FOUR):
        for state in all_states(web[0]):
            yield web, state
    for web in unlike_webs(5):
        for state in itertools.islice(all_states(5), 0, None, 7):
            yield web, state


class RightPapersTest(Asking, unittest.TestCase):
    def judged(self, expected, web, state, speeds, value):
        self.judges(expected, judged_speed, web, state, speeds, value)

    def test_papers(self):
        for web, state in (*small_cases(), *WOUND, *random_cases(60, seed=12)):
            self.judged(True, web, state, speed(web, state), speed_paper(web, state))

    def test_all_rings(self):
        for web, state in (*small_cases(), *WOUND):
            paces, (rings, roof) = speed(web, state), speed_paper(web, state)
            lots = parts_in(web)
            for ring in rings_in(web):
                for at, lot in enumerate(lots):
                    value = rings[:at] + (ring,) + rings[at + 1:]
                    right = (
                        ring[0] in lot and paces[ring[0]] != ZERO
                        and Fraction(sum_round(state, ring), len(ring)) == Fraction(*paces[ring[0]])
                    )
                    self.judged(right, web, state, paces, (value, roof))

    def test_no_ring_stands_for_none_and_none_for_no_ring(self):
        for web, state in (*small_cases(), *WOUND):
            paces, (rings, roof) = speed(web, state), speed_paper(web, state)
            for at, ring in enumerate(rings):
                value = rings[:at] + (None,) + rings[at + 1:]
                self.judged(ring is None, web, state, paces, (value, roof))

    def test_other_roofs(self):
        for web, state in (*small_cases(), *WOUND, *random_cases(60, seed=13)):
            paces, (rings, roof) = speed(web, state), speed_paper(web, state)
            below = other_roof(web, state)
            self.judged(True, web, state, paces, (rings, below))
            self.judged(True, web, state, paces, (rings, half_way(roof, below)))
            for lot in parts_in(web):
                # Only what the fractions of a part differ by counts.
                for by in (1, -1, Fraction(1, 7), Fraction(-22, 9), FAR, -FAR):
                    self.judged(True, web, state, paces, (rings, moved(roof, lot, by)))

    def test_roofs_with_one_fraction_raised_or_lowered(self):
        for web, state in (*small_cases(), *WOUND):
            paces, (rings, roof) = speed(web, state), speed_paper(web, state)
            for one, by in itertools.product(range(web[0]), (Fraction(1, 3), Fraction(-1, 3), -1)):
                value = moved(roof, [one], by)
                self.judged(holds(web, state, value), web, state, paces, (rings, value))
            for one, near in enumerate(neighbours_in(web)):
                for by in (FAR, -FAR):
                    value = (rings, moved(roof, [one], by))
                    self.judged(not near, web, state, paces, value)

    def test_other_speeds(self):
        for web, state in (*small_cases(), *WOUND):
            paces, (rings, roof) = speed(web, state), speed_paper(web, state)
            for lot in parts_in(web):
                for by in (Fraction(1, 12), Fraction(-1, 12), 1, -1, FAR, -FAR):
                    others = moved(paces, lot, by)
                    self.judged(False, web, state, others, (rings, roof))
                    nones = (None,) * len(rings)
                    self.judged(False, web, state, others, (nones, roof))


class WrongPapersTest(Asking, unittest.TestCase):
    def judged(self, expected, web, state, speeds, value):
        self.judges(expected, judged_speed, web, state, speeds, value)

    def test_speeds_of_one_part_are_alike(self):
        paces, (rings, roof) = ((3, 4),) * 4, speed_paper(FOUR, (0, 1, 2, 2))
        self.judged(True, FOUR, (0, 1, 2, 2), paces, (rings, roof))
        for one in range(4):
            for pace in ((1, 1), (10, 1), (4, 5), (2, 3), (0, 1)):
                others = paces[:one] + (pace,) + paces[one + 1:]
                self.judged(False, FOUR, (0, 1, 2, 2), others, (rings, roof))
                self.judged(False, FOUR, (0, 1, 2, 2), others, (rings, ((0, 1),) * 4))
        # The roof is high enough for both, the ring has the first one's speed.
        roof = ((2, 1), (1, 1), (0, 1))
        self.judged(False, LINE, (0, 1, 2), ((0, 1), (0, 1), (1, 1)), ((None,), roof))
        self.judged(True, LINE, (0, 1, 2), ((0, 1), (0, 1), (0, 1)), ((None,), roof))

    def test_fractions_of_speeds(self):
        state, ring, roof = (0, 1, 2), (0, 1, 2), ((0, 1),) * 3
        self.judged(True, THREE, state, ((1, 1),) * 3, ((ring,), roof))
        for pace in (
            (2, 2), (3, 3), (-1, -1), (1, -1), (-1, 1), (1, 0), (0, 0), (0, 1), (0, 2), (FAR, FAR),
            (True, 1), (1, True), (True, True), (1,), (1, 1, 1), (), [1, 1], "11", ("1", "1"), "1/1",
            (None, 1), (1, None), ((1,), 1), ([1], 1), {1: 1}, {0: 1, 1: 1}, 1, True, None, 0,
        ):
            for one in range(3):
                paces = ((1, 1),) * one + (pace,) + ((1, 1),) * (2 - one)
                self.judged(False, THREE, state, paces, ((ring,), roof))
            self.judged(False, THREE, state, (pace,) * 3, ((ring,), roof))
            self.judged(False, THREE, state, (pace,) * 3, ((None,), roof))

    def test_no_speeds_at_all(self):
        right, value = ((1, 1),) * 3, (((0, 1, 2),), ((0, 1),) * 3)
        for paces in (
            list(right), right[:2], right + ((1, 1),), right * 2, (), [], None, True, False, 0, 1, "",
            "111", {}, {0: (1, 1), 1: (1, 1), 2: (1, 1)}, (right,), ((1, 1), 1), (1, 1), (1, 1, 1),
        ):
            self.judged(False, THREE, (0, 1, 2), paces, value)
            self.judged(False, THREE, (0, 1, 2), paces, None)

    def test_speeds_of_nothing_that_moves(self):
        self.judged(True, ALONE, (1,), ((0, 1),), ((None,), ((5, 3),)))
        for pace in ((0, 2), (0, -1), (0, 0), (-1, 1), (1, 1), (1, 2), (False, 1), (0, True), 0, None):
            self.judged(False, ALONE, (1,), (pace,), ((None,), ((0, 1),)))
        for rings in (((0,),), ((0, 0, 0),), ((),), (0,), (False,), (), None, (None, None), [None]):
            self.judged(False, ALONE, (1,), ((0, 1),), (rings, ((0, 1),)))

    def test_fractions_of_a_roof(self):
        state, rings = (0, 1, 2), ((0, 1, 2),)
        for pair in (
            (0, 2), (0, -1), (0, 0), (0, FAR), (0,), (), (0, 1, 1), [0, 1], "01", ("0", "1"), {0: 1},
            {0: 0, 1: 1}, (False, 1), (0, True), (None, 1), (0, None), 0, None, True, False, ((0,), 1),
            (0, [1]),
        ):
            for one in range(3):
                roof = ((0, 1),) * one + (pair,) + ((0, 1),) * (2 - one)
                self.judged(False, THREE, state, ((1, 1),) * 3, (rings, roof))
        for pair in (
            (2, 4), (-2, 4), (1, -2), (-1, -2), (3, 3), (4, 2), (FAR, FAR), (1, 0), (-1, 0), (0, 0),
            (1, -1), (0, 3),
        ):
            self.judged(False, (2, ()), (0, 1), (ZERO,) * 2, ((None, None), (ZERO, pair)))
            self.judged(False, THREE, state, ((1, 1),) * 3, (rings, (pair,) * 3))
        for pair in ((1, 2), (-1, 2), (FAR, 1), (-FAR, 1), (1, FAR), (FAR, FAR + 1), (0, 1)):
            self.judged(True, (2, ()), (0, 1), (ZERO,) * 2, ((None, None), (ZERO, pair)))
            self.judged(True, THREE, state, ((1, 1),) * 3, (rings, (pair,) * 3))

    def test_no_roof_at_all(self):
        right = ((0, 1),) * 3
        for roof in (
            list(right), right[:2], right + ((0, 1),), right * 2, (), [], None, True, 0, "", "000", {},
            {0: (0, 1), 1: (0, 1), 2: (0, 1)}, (right,), (0, 1), (0, 0, 0), (None,) * 3,
        ):
            self.judged(False, THREE, (0, 1, 2), ((1, 1),) * 3, (((0, 1, 2),), roof))

    def test_a_roof_that_fails_at_one_street(self):
        # 0, 1 and 2 stand two steps up; each street needs its whole count.
        paces, rings = (ZERO,) * 3, (None,)
        for roof, right in (
            (((2, 1), (1, 1), (0, 1)), True), (((1, 1), (0, 1), (-1, 1)), True),
            (((2, 1), (1, 1), (1, 2)), False), (((5, 2), (1, 1), (0, 1)), False),
            (((3, 2), (1, 1), (0, 1)), False), (((2, 1), (3, 2), (0, 1)), False),
            (((0, 1), (1, 1), (2, 1)), False), (((0, 1),) * 3, False),
        ):
            self.judged(right, LINE, (0, 1, 2), paces, (rings, roof))
        # Roofs for the speed 3/4 that lie just high enough, and just too low.
        paces, rings = ((3, 4),) * 4, ((0, 1, 2, 3),)
        for roof, right in (
            (((3, 4), (1, 2), (1, 4), (1, 1)), True), (((0, 1), (-1, 4), (-1, 2), (1, 4)), True),
            (((3, 4), (1, 2), (1, 4), (99, 100)), False), (((7, 10), (1, 2), (1, 4), (1, 1)), False),
            (((3, 4), (1, 2), (13, 50), (1, 1)), False),
        ):
            self.judged(right, FOUR, (0, 1, 2, 2), paces, (rings, roof))

    def test_no_rings_at_all(self):
        state, paces, roof = (0, 1, 2), ((1, 1),) * 3, ((0, 1),) * 3
        for ring in (
            (2, 1, 0), (1, 0, 2), (0, 1), (0, 1, 2, 0), (0, 1, 2) * 2, (0, 1, 1), (0, 0, 0), (0,), (),
            (0, 1, 3), (0, 1, -1), (False, 1, 2), (0, True, 2), (0, 1, None), ("0", "1", "2"),
            (0, 1, [2]), (0, 1, (2,)), ([0], [1], [2]), [0, 1, 2], "012", {0: 1, 1: 2, 2: 0}, None,
            True, False, 0, 3, ((0, 1, 2),),
        ):
            self.judged(False, THREE, state, paces, ((ring,), roof))
        for rings in (
            [(0, 1, 2)], (), ((0, 1, 2), None), ((0, 1, 2), (0, 1, 2)), (None, (0, 1, 2)), (0, 1, 2),
            None, True, "", "0", {0: (0, 1, 2)}, (None,),
        ):
            self.judged(False, THREE, state, paces, (rings, roof))

    def test_a_ring_with_another_speed(self):
        # Rings of 3 and of 5, both wound: that of 5 is slower.
        state = (0, 1, 2, 1, 2, 2, 2, 2, 1, 0)
        paces, (rings, roof) = speed(TAILED, state), speed_paper(TAILED, state)
        self.judged(True, TAILED, state, paces, (((1, 2, 0),), roof))
        self.judged(False, TAILED, state, paces, (((0, 3, 4, 5, 6),), roof))
        self.judged(False, TAILED, state, ((3, 5),) * 10, (((0, 3, 4, 5, 6),), roof))
        # Nor does the ring of another part stand for this one's.
        web = (6, ((0, 1), (0, 2), (1, 2), (3, 4), (3, 5), (4, 5)))
        state, roof = (0, 1, 2, 0, 1, 2), ((0, 1),) * 6
        right = ((0, 1, 2), (3, 4, 5))
        self.judged(True, web, state, ((1, 1),) * 6, (right, roof))
        for rings in (right[::-1], right[:1] * 2, right[1:] * 2, right[:1] + (None,)):
            self.judged(False, web, state, ((1, 1),) * 6, (rings, roof))

    def test_a_ring_where_the_speed_is_0(self):
        self.judged(True, THREE, (0, 0, 1), (ZERO,) * 3, ((None,), ((1, 1), (1, 1), ZERO)))
        for ring in ((0, 1, 2), (2, 1, 0), (), 0, False, ZERO):
            value = ((ring,), ((1, 1), (1, 1), ZERO))
            self.judged(False, THREE, (0, 0, 1), (ZERO,) * 3, value)
        self.judged(True, THREE, (1, 1, 1), (ZERO,) * 3, ((None,), (ZERO,) * 3))
        self.judged(False, THREE, (1, 1, 1), (ZERO,) * 3, (((0, 1, 2),), (ZERO,) * 3))

    def test_a_speed_below_0(self):
        for state in ((0, 2, 1), (0, 0, 0)):
            for ring in ((0, 1, 2), None):
                value = ((ring,), ((0, 1),) * 3)
                self.judged(False, THREE, state, ((-1, 1),) * 3, value)
        self.judged(False, (2, ()), (0, 1), ((-1, 1), ZERO), ((None, None), (ZERO, ZERO)))

    def test_a_roof_that_is_high_enough_for_a_greater_speed(self):
        roof = ((5, 1), (4, 1), (3, 1))
        self.judged(False, LINE, (0, 1, 2), ((1, 1),) * 3, ((None,), roof))
        self.judged(False, LINE, (0, 1, 2), ((1, 1),) * 3, (((0, 1, 2),), roof))
        self.judged(True, LINE, (0, 1, 2), (ZERO,) * 3, ((None,), roof))

    def test_other_values(self):
        ring, roof = (0, 1, 2), ((0, 1),) * 3
        right = ((ring,), roof)
        for value in (
            list(right), right[:1], right[1:], right + (None,), right[::-1], (right,), ring, roof,
            (ring,), (ring, roof), None, True, False, 0, 1, (), [], "", "ab", {}, {(ring,): roof},
            {0: (ring,), 1: roof}, (None, None), (None, roof), ((ring,), None),
        ):
            self.judged(False, THREE, (0, 1, 2), ((1, 1),) * 3, value)

    def test_each_part_counts(self):
        wound = (0, 1, 2, 0, 1, 2, 0, 1, 2, 0)
        for web, state in ((APART, wound), (SHARED, (0,) * 10), (LOOSE, (1,) * 10)):
            paces, (rings, roof) = speed(web, state), speed_paper(web, state)
            self.judged(True, web, state, paces, (rings, roof))
            self.judged(False, web, state, paces, (rings[:-1], roof))
            self.judged(False, web, state, paces, (rings + (None,), roof))
            self.judged(False, web, state, paces, (rings, roof[:-1]))
        state = (0, 0, 0, 1, 1, 1, 2, 2, 2, 2)
        paces, (rings, roof) = speed(MIXED, state), speed_paper(MIXED, state)
        for order in itertools.permutations(rings):
            self.judged(order == rings, MIXED, state, paces, (order, roof))


if __name__ == "__main__":
    unittest.main()
