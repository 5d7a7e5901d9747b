import itertools
import unittest

from tests.samples import (
    ALONE, APART, FOUR, FULL, HALVES, LINE, LOOSE, LOTS, THREE, WOUND, Asking, all_states, line_of,
    random_cases, small_webs, unlike_webs, wrong_states, wrong_webs,
)
from tests.slow_ways import (
    COUNTS, neighbours_in, parts_in, rings_in, states_by_ticks, sum_round,
)
from threemoods.errors import BadState, BadWeb
from threemoods.rests import heights, judged_rest, rest_paper, rests, winding

FAR = 10 ** 30
ODD = (0, 1, 2, 2, 1, 0, 0, 2, 1, 1)
ASKED = (heights, winding, rests, rest_paper)


def small_cases():
    """All states of all webs of up to four folk, and of unlike ones of five."""
    for web in (*small_webs(4), *unlike_webs(5)):
        for state in all_states(web[0]):
            yield web, state


def comes_to_rest(web, state):
    """Whether running comes to a still state: small webs come to it soon, or never."""
    ahead, last = states_by_ticks(web, state, 12)[-2:]
    return ahead == last


def differ_rightly(web, state, levels):
    """Whether levels differ by the step's count along each street, in both directions."""
    return all(
        levels[other] - levels[one] == COUNTS[state[one], state[other]]
        and levels[one] - levels[other] == COUNTS[state[other], state[one]]
        for one, other in web[1]
    )


class HeightsTest(unittest.TestCase):
    def check(self, web, state):
        levels = heights(web, state)
        self.assertIsInstance(levels, tuple)
        self.assertEqual(web[0], len(levels))
        for level in levels:
            self.assertIs(int, level.__class__)
        for lot in parts_in(web):
            self.assertEqual(0, max(levels[one] for one in lot), (web, state))
        self.assertTrue(differ_rightly(web, state, levels), (web, state))

    def test_examples_of_the_interface(self):
        self.assertEqual((-2, -1, 0), heights(LINE, (0, 1, 2)))
        self.assertIsNone(winding(LINE, (0, 1, 2)))
        self.assertEqual(("rests", (-2, -1, 0)), rest_paper(LINE, (0, 1, 2)))
        self.assertIs(False, rests(THREE, (0, 1, 2)))

    def test_lines(self):
        self.assertEqual((0, -1, -2), heights(LINE, (2, 1, 0)))
        self.assertEqual((-1, 0, -1), heights(LINE, (0, 1, 0)))
        self.assertEqual((0, -1, 0), heights(LINE, (0, 2, 0)))
        up = (0, 1, 2, 0, 1, 2, 0, 1, 2, 0)
        self.assertEqual(tuple(range(-9, 1)), heights(line_of(10), up))
        self.assertEqual(tuple(range(0, -10, -1)), heights(line_of(10), up[::-1]))

    def test_each_part_has_its_own_heights(self):
        self.assertEqual((0,) * 10, heights(LOOSE, ODD))
        moods = (0, 1, 0, 1, 1, 0, 2, 1, 1)
        self.assertEqual((-1, 0, -1, 0, 0, -1, 0, 0, 0), heights(LOTS, moods))
        web = (5, ((0, 1), (2, 3), (3, 4)))
        self.assertEqual((0, -1, -2, -1, 0), heights(web, (1, 0, 1, 2, 0)))

    def test_just_one_of_heights_and_winding(self):
        for web, state in small_cases():
            rings = [ring for ring in rings_in(web) if sum_round(state, ring) > 0]
            levels, ring = heights(web, state), winding(web, state)
            self.assertEqual(comes_to_rest(web, state), not rings, (web, state))
            self.assertIs(not rings, rests(web, state), (web, state))
            if rings:
                self.assertIsNone(levels, (web, state))
                self.assertIn(ring, rings, (web, state))
                self.assertEqual("winds", rest_paper(web, state)[0])
                self.assertIn(rest_paper(web, state)[1], rings)
            else:
                self.assertIsNone(ring, (web, state))
                self.check(web, state)
                self.assertEqual(("rests", levels), rest_paper(web, state))

    def test_greater_webs(self):
        calm = (0, 0, 0, 0, 1, 1, 0, 0, 2, 2)
        cases = [(FULL, (1,) * 10), (FULL, (0, 1) * 5), (FULL, ODD), (line_of(10), ODD)]
        for web, state in (*cases, (HALVES, calm), *WOUND, *random_cases(300, seed=4)):
            still = len(set(states_by_ticks(web, state, 100)[-2:])) == 1
            self.assertIs(still, rests(web, state), (web, state))
            if still:
                self.check(web, state)
                self.assertIsNone(winding(web, state))
            else:
                ring = winding(web, state)
                self.assertIsNone(heights(web, state))
                self.assertIsInstance(ring, tuple)
                self.assertEqual(len(ring), len(set(ring)))
                self.assertGreaterEqual(len(ring), 3)
                for one, other in zip(ring, ring[1:] + ring[:1]):
                    self.assertIn(other, neighbours_in(web)[one])
                self.assertGreater(sum_round(state, ring), 0)

    def test_one_part_that_winds_is_enough(self):
        state = (0, 1, 2, 0, 0, 0, 0, 0, 0, 0)
        self.assertIn(winding(APART, state), ((0, 1, 2), (1, 2, 0), (2, 0, 1)))
        self.assertIsNone(heights(APART, state))
        state = (0, 0, 0, 0, 1, 1, 1, 2, 2, 2)
        ring = winding(APART, state)
        self.assertEqual({3, 4, 5, 6, 7, 8, 9}, set(ring))
        self.assertEqual(3, sum_round(state, ring))

    def test_tuples_and_words(self):
        for web, state in ((LINE, (0, 1, 2)), (THREE, (0, 1, 2))):
            paper = rest_paper(web, state)
            self.assertIsInstance(paper, tuple)
            self.assertEqual(2, len(paper))
            self.assertIsInstance(paper[1], tuple)


class JudgedRestTest(Asking, unittest.TestCase):
    def judged(self, expected, web, state, value):
        self.judges(expected, judged_rest, web, state, value)

    def test_examples_of_the_interface(self):
        self.judged(True, THREE, (0, 1, 2), ("winds", (0, 1, 2)))
        self.judged(False, THREE, (0, 1, 2), ("winds", (2, 1, 0)))

    def test_papers(self):
        for web, state in (*small_cases(), *WOUND, *random_cases(100, seed=5)):
            self.judged(True, web, state, rest_paper(web, state))

    def test_heights_of_a_part_raised_or_lowered_alike(self):
        for web, state in small_cases():
            levels = heights(web, state)
            if levels is not None:
                for lot, by in itertools.product(parts_in(web), (1, -1, 7, FAR, -FAR)):
                    moved = tuple(
                        level + by if one in lot else level for one, level in enumerate(levels)
                    )
                    self.judged(True, web, state, ("rests", moved))

    def test_heights_of_one_moved(self):
        for web, state in small_cases():
            levels = heights(web, state)
            if levels is not None:
                for one, near in enumerate(neighbours_in(web)):
                    for by in (1, -1, 3, FAR):
                        moved = levels[:one] + (levels[one] + by,) + levels[one + 1:]
                        self.judged(not near, web, state, ("rests", moved))

    def test_heights_too_few_and_too_many(self):
        for web, state in small_cases():
            levels = heights(web, state)
            if levels is not None:
                for value in (levels[1:], levels[:-1], levels + (0,), (0,) + levels, levels * 2, ()):
                    self.judged(False, web, state, ("rests", value))

    def test_no_heights_for_what_winds(self):
        for state in itertools.permutations(range(3)):
            for levels in itertools.product(range(-2, 1), repeat=3):
                self.judged(False, THREE, state, ("rests", levels))
        self.judged(False, THREE, (0, 1, 2), ("rests", None))

    def test_all_rings(self):
        for web, state in small_cases():
            for ring in rings_in(web):
                self.judged(sum_round(state, ring) > 0, web, state, ("winds", ring))

    def test_rings_of_greater_webs(self):
        for web, state in WOUND:
            for ring in rings_in(web):
                self.judged(sum_round(state, ring) > 0, web, state, ("winds", ring))

    def test_no_rings(self):
        wound = (0, 1, 2, 2)
        self.judged(True, FOUR, wound, ("winds", (0, 1, 2, 3)))
        for value in (
            # Somebody twice, of two folk, of one, of none.
            (0, 1, 2, 3, 0), (0, 1, 2, 3) * 2, (0, 1, 2, 2), (0, 0, 1, 2, 3), (0, 1, 0, 3),
            (0, 1, 0), (0, 1), (1, 2), (2, 3, 2), (0,), (1,), (),
            # No street between some of them.
            (0, 1, 2), (0, 1, 3), (0, 1, 3, 2), (0, 2, 1, 3), (1, 3, 0, 2),
            # None of the folk.
            (0, 1, 2, 4), (0, 1, 2, -1), (0, 1, 2, 3, 4), (4, 5, 6), (0, 1, 2, FAR),
            (False, 1, 2, 3), (0, True, 2, 3), (0, 1, 2, None), (0, 1, 2, "3"), ("0", "1", "2", "3"),
            (0, 1, 2, (3,)), (0, 1, 2, [3]), ([0], [1], [2], [3]), (0, 1, 2, {}),
            # No tuples, and the other way round.
            [0, 1, 2, 3], "0123", {0: 1, 1: 2, 2: 3, 3: 0}, None, True, 4, ((0, 1, 2, 3),),
            (3, 2, 1, 0), (0, 3, 2, 1),
        ):
            self.judged(False, FOUR, wound, ("winds", value))

    def test_rings_without_a_sum(self):
        self.judged(False, THREE, (0, 0, 1), ("winds", (0, 1, 2)))
        self.judged(False, THREE, (0, 0, 0), ("winds", (0, 1, 2)))

    def test_a_ring_needs_not_be_in_the_first_part(self):
        state = (0, 0, 0, 0, 1, 1, 1, 2, 2, 2)
        self.judged(True, APART, state, ("winds", (3, 4, 5, 6, 7, 8, 9)))
        self.judged(False, APART, state, ("winds", (0, 1, 2)))
        self.judged(False, APART, state, ("winds", (0, 1, 2, 3, 4, 5, 6, 7, 8, 9)))

    def test_integers_alone_are_heights(self):
        self.judged(True, LINE, (0, 1, 0), ("rests", (0, 1, 0)))
        self.judged(True, (2, ()), (1, 2), ("rests", (1, 0)))
        for value in (
            (0, True, 0), (False, 1, 0), (False, True, False), (0, 1, None), (0, 1, "0"), (0, 1, (0,)),
            (0, 1, [0]), ({}, 1, 0), ("0", "1", "0"), (None,) * 3, [0, 1, 0], "010", {0: 0, 1: 1, 2: 0},
            None, True, 0, 3, ((0, 1, 0),),
        ):
            self.judged(False, LINE, (0, 1, 0), ("rests", value))
        for value in ((True, 0), (0, False), (None, 0), (0, ()), ("", 0)):
            self.judged(False, (2, ()), (1, 2), ("rests", value))
        self.judged(False, ALONE, (1,), ("rests", (True,)))

    def test_other_words_and_other_values(self):
        levels, ring = (-2, -1, 0), (0, 1, 2)
        for word in (
            "rest", "Rests", "RESTS", "rests ", " rests", "", "wind", "Winds", "heights", "never", None,
            True, False, 0, 1, (), ("rests",), ["rests"], {}, {"rests": 1},
        ):
            self.judged(False, LINE, (0, 1, 2), (word, levels))
            self.judged(False, THREE, (0, 1, 2), (word, ring))
        for value in (
            None, True, False, 0, 1, "", "rests", "winds", (), [], {}, levels, ring, ("rests",),
            ("winds",), ("rests", "rests"), ["rests", levels], ["winds", ring], ("rests", levels, None),
            ("winds", ring, ring), ("rests", *levels), (levels, "rests"), (ring, "winds"),
            {"rests": levels}, {"winds": ring}, (("rests", levels),), (None, None), "re",
        ):
            self.judged(False, LINE, (0, 1, 2), value)
            self.judged(False, THREE, (0, 1, 2), value)
        self.judged(False, LINE, (0, 1, 2), ("winds", levels))
        self.judged(False, LINE, (0, 1, 2), ("winds", ring))
        self.judged(False, THREE, (0, 1, 2), ("rests", ring))


class WrongArgumentsTest(Asking, unittest.TestCase):
    def test_indexes_of_wrong_webs(self):
        for value, index in wrong_webs():
            for function in ASKED:
                self.assertEqual(index, self.raises(BadWeb, function, value, (0, 1, 2)).index)
            error = self.raises(BadWeb, judged_rest, value, (0, 1, 2), None)
            self.assertEqual(index, error.index)

    def test_the_leftmost_argument_comes_first(self):
        rows = (
            (LINE, BadWeb, [value for value, _ in wrong_webs()]),
            ((0, 1, 2), BadState, wrong_states(3)),
        )
        for function in ASKED:
            self.tells_leftmost(function, *rows)
        for value in (("rests", (-2, -1, 0)), ("rests", ()), None, [0], True):
            self.tells_leftmost(lambda *arguments: judged_rest(*arguments, value), *rows)


class ArgumentsTest(Asking, unittest.TestCase):
    def test_arguments_are_left_as_they_are(self):
        for web in (LINE, THREE, [3, [[0, 1]]]):
            for state in ((0, 1, 2), [0, 1, 2], (0, [1], 2)):
                for function in ASKED:
                    self.keeps(function, web, state)
                for shown in ((-2, -1, 0), [-2, -1, 0], ([0], 1, 2), (0, 1, 2), [0, 1, 2]):
                    self.keeps(judged_rest, web, state, ("rests", shown))
                    self.keeps(judged_rest, web, state, ("winds", shown))
                    self.keeps(judged_rest, web, state, ["winds", {0: shown}])


if __name__ == "__main__":
    unittest.main()
