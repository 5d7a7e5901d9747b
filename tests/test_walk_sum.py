import itertools
import unittest

from tests.samples import (
    ALONE, FULL, LINE, LOTS, THREE, Asking, all_states, line_of, small_webs,
    wrong_folk, wrong_states, wrong_webs,
)
from tests.slow_ways import COUNTS
from threemoods.errors import BadState, BadWalk, BadWeb
from threemoods.moods import walk_sum

NO_WALKS = (
    None, True, 0, 1, "", "0", "01", (), [], [0], [0, 1], {}, {0: 0}, {0: 0, 1: 1},
    (0,) * 201, (0, 1) * 101, (None,) * 201, (0,) * 1000,
)


def stands_behind(web, one, other):
    """Whether a walk may lead from one to another."""
    return one == other or (one, other) in web[1] or (other, one) in web[1]


class WalkSumTest(Asking, unittest.TestCase):
    def test_examples_of_the_interface(self):
        self.assertEqual(1, walk_sum(LINE, (0, 1, 2), (0, 1, 2, 1)))
        self.assertEqual(1, self.raises(BadWalk, walk_sum, LINE, (0, 1, 2), (0, 2)).index)

    def test_each_step(self):
        for moods, count in COUNTS.items():
            self.assertEqual(count, walk_sum((2, ((0, 1),)), moods, (0, 1)), moods)
            self.assertEqual(-count, walk_sum((2, ((0, 1),)), moods, (1, 0)), moods)

    def test_one_of_the_folk(self):
        for web, state in ((ALONE, (2,)), (LINE, (0, 1, 2)), (FULL, (0, 1) * 5)):
            for one in range(web[0]):
                self.assertEqual(0, walk_sum(web, state, (one,)))

    def test_staying(self):
        self.assertEqual(0, walk_sum(ALONE, (1,), (0,) * 200))
        self.assertEqual(2, walk_sum(LINE, (0, 1, 2), (0, 0, 1, 1, 1, 2, 2)))
        self.assertEqual(-1, walk_sum(LINE, (0, 0, 1), (2, 2, 1, 1, 0, 0, 0)))

    def test_up_and_down(self):
        self.assertEqual(2, walk_sum(LINE, (0, 1, 2), (0, 1, 2)))
        self.assertEqual(-2, walk_sum(LINE, (0, 1, 2), (2, 1, 0)))
        self.assertEqual(0, walk_sum(LINE, (0, 1, 2), (0, 1, 2, 1, 0)))
        self.assertEqual(-1, walk_sum(LINE, (1, 1, 0), (0, 1, 0, 1, 2)))

    def test_round_a_ring(self):
        self.assertEqual(3, walk_sum(THREE, (0, 1, 2), (0, 1, 2, 0)))
        self.assertEqual(-3, walk_sum(THREE, (0, 1, 2), (0, 2, 1, 0)))
        self.assertEqual(0, walk_sum(THREE, (0, 0, 1), (0, 1, 2, 0)))

    def test_two_hundred_folk(self):
        self.assertEqual(199, walk_sum(THREE, (0, 1, 2), ((0, 1, 2) * 67)[:200]))
        self.assertEqual(-199, walk_sum(THREE, (0, 1, 2), ((2, 1, 0) * 67)[:200]))
        self.assertEqual(1, walk_sum(LINE, (0, 1, 2), (0, 1) * 100))

    def test_in_a_web_of_several_parts(self):
        self.assertEqual(2, walk_sum(LOTS, (0, 0, 1, 2, 1, 0, 0, 0, 2), (0, 4, 8)))
        self.assertEqual(2, walk_sum(LOTS, (0, 0, 1, 2, 1, 0, 0, 0, 2), (2, 3, 7)))

    def test_all_short_walks_of_small_webs(self):
        for web in small_webs(3):
            walks = list(itertools.product(range(web[0]), repeat=3))
            for state, walk in itertools.product(all_states(web[0]), walks):
                if all(stands_behind(web, one, other) for one, other in itertools.pairwise(walk)):
                    moods = [state[one] for one in walk]
                    total = sum(COUNTS[pair] for pair in itertools.pairwise(moods))
                    self.assertEqual(total, walk_sum(web, state, walk), (web, state, walk))
                else:
                    at = 1 if not stands_behind(web, *walk[:2]) else 2
                    self.assertEqual(at, self.raises(BadWalk, walk_sum, web, state, walk).index)


class WrongArgumentsTest(Asking, unittest.TestCase):
    def test_no_walks_at_all(self):
        for value in NO_WALKS:
            with self.subTest(value=value):
                self.assertIsNone(self.raises(BadWalk, walk_sum, LINE, (0, 1, 2), value).index)

    def test_items_that_are_none_of_the_folk(self):
        for value in wrong_folk(3):
            for ahead in ((), (0,), (0, 1), (1,) * 199):
                with self.subTest(value=value, ahead=len(ahead)):
                    walk = ahead + (value,)
                    error = self.raises(BadWalk, walk_sum, LINE, (0, 1, 2), walk)
                    self.assertEqual(len(ahead), error.index)

    def test_true_is_none_of_the_folk(self):
        for walk, index in (((True,), 0), ((0, True), 1), ((True, 1), 0), ((1, False), 1)):
            self.assertEqual(index, self.raises(BadWalk, walk_sum, LINE, (0, 1, 2), walk).index)

    def test_steps_without_a_street(self):
        for walk, index in (
            ((0, 2), 1), ((2, 0), 1), ((0, 1, 2, 0), 3), ((0, 0, 0, 2, 2), 3),
            ((1,) * 198 + (0, 2), 199),
        ):
            self.assertEqual(index, self.raises(BadWalk, walk_sum, LINE, (0, 1, 2), walk).index)
        line = line_of(10)
        self.assertEqual(1, self.raises(BadWalk, walk_sum, line, (0,) * 10, (9, 0)).index)

    def test_the_first_wrong_item_counts(self):
        for walk, index in (
            ((0, 2, None), 1), ((0, None, 2, 0), 1), ((3, 0, 2), 0), ((0, 1, 3, True), 2),
            ((0, 1, 2, 0, -1), 3),
        ):
            self.assertEqual(index, self.raises(BadWalk, walk_sum, LINE, (0, 1, 2), walk).index)

    def test_no_webs_and_no_states(self):
        for value, index in wrong_webs():
            self.assertEqual(index, self.raises(BadWeb, walk_sum, value, (0, 0, 0), (0,)).index)
        for value in wrong_states(3):
            self.raises(BadState, walk_sum, LINE, value, (0,))

    def test_the_leftmost_argument_comes_first(self):
        for walk in ((0,), (0, 2), (3,), *NO_WALKS):
            self.raises(BadState, walk_sum, LINE, (0, 1), walk)
            self.raises(BadState, walk_sum, LINE, (0, 1, True), walk)
            self.raises(BadWeb, walk_sum, (3, ((0, 0),)), (0, 1, 2), walk)
            self.raises(BadWeb, walk_sum, (12, ()), [0], walk)


class ArgumentsTest(Asking, unittest.TestCase):
    def test_arguments_are_left_as_they_are(self):
        for walk in ((0, 1, 2), [0, 1], ([0], 1), (0, {1: [2]})):
            self.keeps(walk_sum, LINE, (0, 1, 2), walk)
            self.keeps(walk_sum, LINE, [0, 1, 2], walk)
            self.keeps(walk_sum, [3, [[0, 1]]], (0, 1, 2), walk)


if __name__ == "__main__":
    unittest.main()
