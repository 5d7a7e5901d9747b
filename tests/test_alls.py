import itertools
import unittest
from fractions import Fraction

from tests.samples import (
    ALONE, APART, BRIDGED, FOUR, FULL, HALVES, LINE, LOOSE, LOTS, MIXED, SHARED, TAILED, THREE,
    Asking, all_states, line_of, random_cases, ring_of, small_webs, unlike_webs, wrong_states,
    wrong_webs,
)
from tests.slow_ways import changes_by_ticks, rests_in, rings_in, states_by_ticks
from threemoods.alls import (
    calm_for_all, fastest, fastest_state, longest_rest, shows_fastest_state,
)
from threemoods.errors import BadWeb
from threemoods.rests import rest_tick
from threemoods.speeds import speed

ASKED = (calm_for_all, longest_rest, fastest, fastest_state)
# Rings of 8 and of 9, each with a tail.
EIGHT = (10, tuple(sorted(ring_of(8)[1] + ((0, 8), (8, 9)))))
NINE = (10, ring_of(9)[1] + ((8, 9),))
# Rings of 4 and of 5, each a part of its own.
UNLIKE = (9, ((0, 1), (0, 3), (1, 2), (2, 3), (4, 5), (4, 8), (5, 6), (6, 7), (7, 8)))


def speeds_by_running(web, state):
    """The speeds of the folk of a state, by their changes in a number of long rounds."""
    # The rings of up to five folk come again after 60 ticks, and 12 ticks are ahead enough.
    counts = changes_by_ticks(states_by_ticks(web, state, 72))
    return [Fraction(late - early, 60) for early, late in zip(counts[12], counts[72])]


def greatest_speed(web):
    """The greatest speed of all folk and states, by all states."""
    return max(max(speeds_by_running(web, state)) for state in all_states(web[0]))


def pair_of(fraction):
    """A fraction as the pair that the document means."""
    return fraction.numerator, fraction.denominator


def fastest_by_rings(web):
    """The greatest share of a ring's steps that can count 1, by all rings."""
    shares = [Fraction(len(ring) // 3 * 3, len(ring)) for ring in rings_in(web)]
    return pair_of(max(shares, default=Fraction(0)))


class CalmTest(Asking, unittest.TestCase):
    def test_examples_of_the_interface(self):
        self.judges(True, calm_for_all, LINE)

    def test_small_webs(self):
        for web in (*small_webs(4), *unlike_webs(5)):
            self.judges(len(rests_in(web)) == 3 ** web[0], calm_for_all, web)

    def test_greater_webs(self):
        for web in (line_of(10), ALONE, LOOSE, (10, tuple((0, one) for one in range(1, 10)))):
            self.judges(True, calm_for_all, web)
        for web in (ring_of(10), FULL, LOTS, TAILED, SHARED, BRIDGED, APART, MIXED, HALVES):
            self.judges(False, calm_for_all, web)
        # As few streets as a tree, but a ring and one alone.
        self.judges(False, calm_for_all, (4, THREE[1]))
        for web, _ in random_cases(100, seed=31):
            self.judges(not rings_in(web), calm_for_all, web)


class LongestRestTest(unittest.TestCase):
    def test_examples_of_the_interface(self):
        self.assertEqual(2, longest_rest(LINE))

    def test_small_webs(self):
        for web in (*small_webs(4), *unlike_webs(5)):
            self.assertEqual(max(rests_in(web).values()), longest_rest(web), web)

    def test_greater_webs(self):
        for web, longest in (
            (line_of(10), 9), (ring_of(10), 5), (ring_of(7), 3), (FULL, 1), (LOOSE, 0), (ALONE, 0),
            (APART, 3), (HALVES, 2), (MIXED, 2), (TAILED, 5), (EIGHT, 6),
            (NINE, 5),
        ):
            self.assertEqual(longest, longest_rest(web), web)
        self.assertEqual(max(rests_in(LOTS).values()), longest_rest(LOTS))
        self.assertEqual(max(rests_in(MIXED).values()), longest_rest(MIXED))

    def test_a_long_part_beside_others(self):
        self.assertEqual(5, longest_rest((10, line_of(6)[1] + ((7, 8), (8, 9)))))
        self.assertEqual(5, longest_rest((10, ((0, 1),) + tuple((k, k + 1) for k in range(4, 9)))))


class FastestTest(Asking, unittest.TestCase):
    def check(self, web):
        """Check all three functions against rings and the speeds of states."""
        best = fastest(web)
        self.assertIsInstance(best, tuple)
        self.assertEqual(fastest_by_rings(web), best, web)
        state = fastest_state(web)
        self.assertIsInstance(state, tuple)
        self.assertEqual(web[0], len(state))
        self.assertEqual(best, max(speed(web, state), key=lambda pair: Fraction(*pair)), web)
        self.judges(True, shows_fastest_state, web, state)

    def test_examples_of_the_interface(self):
        self.assertEqual((1, 1), fastest(THREE))
        self.judges(True, shows_fastest_state, THREE, (2, 1, 0))

    def test_small_webs_by_all_states(self):
        for web in (*small_webs(4), *unlike_webs(5)):
            self.assertEqual(pair_of(greatest_speed(web)), fastest(web), web)
            self.check(web)

    def test_states_of_small_webs(self):
        for web in (*small_webs(3), *unlike_webs(4), *unlike_webs(5)):
            best = Fraction(*fastest(web))
            for state in itertools.islice(all_states(web[0]), 0, None, 1 if web[0] < 5 else 7):
                shown = best in speeds_by_running(web, state)
                self.judges(shown, shows_fastest_state, web, state)

    def test_greater_webs(self):
        for web in (
            line_of(10), LOOSE, ALONE, FULL, LOTS, TAILED, SHARED, BRIDGED, APART, MIXED, HALVES,
            EIGHT, NINE, UNLIKE, *map(ring_of, range(3, 11)),
        ):
            if web != FULL:
                self.check(web)
        for web, _ in random_cases(60, seed=32):
            if len(web[1]) < 20:
                self.check(web)

    def test_values(self):
        for many, best in (
            (3, (1, 1)), (4, (3, 4)), (5, (3, 5)), (6, (1, 1)), (7, (6, 7)), (8, (3, 4)),
            (9, (1, 1)), (10, (9, 10)),
        ):
            self.assertEqual(best, fastest(ring_of(many)))
        for web in (ALONE, LOOSE, LINE, line_of(10)):
            self.assertEqual((0, 1), fastest(web))
        for web, best in (
            (FULL, (1, 1)), (UNLIKE, (3, 4)), (SHARED, (6, 7)), (HALVES, (3, 5)), (EIGHT, (3, 4)),
        ):
            self.assertEqual(best, fastest(web))
            self.judges(True, shows_fastest_state, web, fastest_state(web))

    def test_all_streets(self):
        for many in range(3, 11):
            web = (many, tuple(itertools.combinations(range(many), 2)))
            self.assertEqual((1, 1), fastest(web))
            self.assertEqual({0, 1, 2}, set(fastest_state(web)))
            for state in ((0,) * many, (0, 1) + (0,) * (many - 2), (2,) * (many - 1) + (1,)):
                self.judges(False, shows_fastest_state, web, state)
            self.judges(True, shows_fastest_state, web, (0, 2) + (1,) * (many - 2))

    def test_one_part_is_enough(self):
        self.judges(True, shows_fastest_state, APART, (0, 1, 2) + (0,) * 7)
        self.judges(False, shows_fastest_state, APART, (0, 0, 0, 0, 1, 2, 0, 1, 2, 0))
        self.judges(True, shows_fastest_state, APART, (2, 1, 0, 0, 1, 2, 0, 1, 2, 0))
        self.judges(True, shows_fastest_state, UNLIKE, (0, 1, 2, 2) + (0,) * 5)
        self.judges(False, shows_fastest_state, UNLIKE, (0, 0, 0, 0, 0, 1, 2, 2, 2))

    def test_every_state_is_one_without_rings(self):
        for web in (ALONE, LINE, (4, ((0, 1), (2, 3)))):
            for state in all_states(web[0]):
                self.judges(True, shows_fastest_state, web, state)

    def test_values_that_are_no_states(self):
        for web in (ALONE, LINE, THREE, FOUR, APART, FULL):
            for value in (*wrong_states(web[0]), 3, "fast", -1):
                self.judges(False, shows_fastest_state, web, value)
            right = fastest_state(web)
            for value in (right[:-1], right + (0,), list(right), "".join(map(str, right)), (right,)):
                self.judges(False, shows_fastest_state, web, value)
            for mood in (True, False, 3, -1, "0", None, [0], {}, (0,)):
                self.judges(False, shows_fastest_state, web, (mood,) + right[1:])
                self.judges(False, shows_fastest_state, web, right[:-1] + (mood,))
        # True stands beside 0 and 2 as 1 would.
        self.judges(False, shows_fastest_state, THREE, (0, True, 2))
        self.judges(False, shows_fastest_state, LINE, (0, False, 2))


class LawsTest(unittest.TestCase):
    def test_the_longest_rest_is_a_rest(self):
        for web in (*small_webs(3), *unlike_webs(4), line_of(10)):
            states = rests_in(web)
            late = max(states, key=states.get)
            self.assertEqual(longest_rest(web), rest_tick(web, late))


class WrongArgumentsTest(Asking, unittest.TestCase):
    def test_indexes_of_wrong_webs(self):
        for value, index in wrong_webs():
            for function in ASKED:
                self.assertEqual(index, self.raises(BadWeb, function, value).index)
            for state in ((0, 1, 2), None, [0]):
                error = self.raises(BadWeb, shows_fastest_state, value, state)
                self.assertEqual(index, error.index)


class ArgumentsTest(Asking, unittest.TestCase):
    def test_arguments_are_left_as_they_are(self):
        for web in (LINE, THREE, [3, [[0, 1]]]):
            for function in ASKED:
                self.keeps(function, web)
            for value in ((0, 1, 2), [0, 1, 2], (0, [1], 2), {0: [1]}):
                self.keeps(shows_fastest_state, web, value)


if __name__ == "__main__":
    unittest.main()
