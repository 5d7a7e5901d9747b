import itertools
import unittest

from tests.samples import (
    ALONE, FOUR, FULL, LINE, LOOSE, LOTS, THREE, WOUND, Asking, all_states, line_of, random_cases,
    ring_of, small_webs, unlike_webs, wrong_folk, wrong_numbers, wrong_states, wrong_webs,
)
from tests.slow_ways import greatest_by_walks, neighbours_in, sum_along, walks_in
from threemoods.errors import BadFolk, BadNumber, BadState, BadWeb
from threemoods.walks import best_walk, changes, shows_best_walk

ODD = (0, 1, 2, 2, 1, 0, 0, 2, 1, 1)


def is_walk(web, walk):
    """Whether a tuple of folk is a walk."""
    return all(
        one == other or other in neighbours_in(web)[one] for one, other in itertools.pairwise(walk)
    )


class BestWalkTest(Asking, unittest.TestCase):
    def check_all(self, web, state, many):
        """Check the answers for all walks of so many steps."""
        for one in range(web[0]):
            walks = walks_in(web, one, many)
            sums = [sum_along(state, walk) for walk in walks]
            greatest = max(sums)
            best = best_walk(web, state, one, many)
            self.assertIn(best, walks)
            self.assertEqual(greatest, sum_along(state, best), (web, state, one, many))
            for walk, count in zip(walks, sums):
                self.judges(count == greatest, shows_best_walk, web, state, one, many, walk)

    def check(self, web, state, many):
        """Check the answers on a web with too many walks to try them all."""
        sums = greatest_by_walks(web, state, many)
        for one in range(web[0]):
            best = best_walk(web, state, one, many)
            self.assertIsInstance(best, tuple)
            self.assertEqual((one, many + 1), (best[0], len(best)))
            self.assertTrue(is_walk(web, best), best)
            self.assertEqual(sums[one], sum_along(state, best), (web, state, one, many))
            self.judges(True, shows_best_walk, web, state, one, many, best)
            lesser = (one,) * (many + 1)
            self.judges(sums[one] == 0, shows_best_walk, web, state, one, many, lesser)

    def test_examples_of_the_interface(self):
        self.assertEqual((0, 1, 2), best_walk(LINE, (0, 1, 2), 0, 2))
        self.judges(True, shows_best_walk, LINE, (0, 1, 2), 0, 3, (0, 0, 1, 2))

    def test_all_webs_of_three_folk(self):
        for web in small_webs(3):
            for state in all_states(web[0]):
                for many in range(4):
                    self.check_all(web, state, many)

    def test_all_unlike_webs_of_four_folk(self):
        for web in unlike_webs(4):
            for state in all_states(4):
                self.check_all(web, state, 2)
        for state in all_states(4):
            self.check_all(FOUR, state, 4)

    def test_no_step_and_sixty(self):
        cases = [(web, ODD) for web in (line_of(10), ring_of(10), FULL, LOOSE)]
        for web, state in (*cases, (LOTS, ODD[:9]), (ALONE, (1,)), *WOUND):
            for many in (0, 1, 59, 60):
                self.check(web, state, many)

    def test_many_webs(self):
        for web, state in random_cases(40, seed=3):
            self.check(web, state, 23)

    def test_sums_are_the_numbers_of_changes(self):
        for web, state in WOUND:
            for one, count in enumerate(changes(web, state, 60)):
                self.assertEqual(count, sum_along(state, best_walk(web, state, one, 60)))


class ShowsBestWalkTest(Asking, unittest.TestCase):
    def test_all_greatest_walks(self):
        state = (0, 1, 2)
        for value in ((0, 1, 2, 2), (0, 0, 1, 2), (0, 1, 1, 2)):
            self.judges(True, shows_best_walk, LINE, state, 0, 3, value)
        for value in ((2, 2, 2), (2, 1, 2)):
            self.judges(True, shows_best_walk, LINE, state, 2, 2, value)
        self.judges(True, shows_best_walk, LINE, state, 1, 0, (1,))
        self.judges(True, shows_best_walk, THREE, state, 1, 60, (1, 2, 0) * 20 + (1,))

    def test_other_values(self):
        state = (0, 1, 2)
        for value in (
            # Lesser sums.
            (0, 0, 0, 0), (0, 1, 2, 1), (0, 0, 0, 1), (0, 1, 0, 1), (0, 0, 1, 0),
            # Too short and too long.
            (0, 1, 2), (0, 1), (0,), (), (0, 1, 2, 2, 2), (0, 0, 1, 2, 2), (0, 1, 2) * 70,
            # From another one.
            (1, 2, 2, 2), (2, 2, 2, 2), (1, 1, 1, 2), (1, 0, 1, 2),
            # No walks.
            (0, 2, 2, 2), (0, 0, 2, 2), (0, 0, 0, 2), (0, 1, 2, 3), (0, 1, 2, -1), (0, 1, -1, -1),
            (0, 1, 2, 10 ** 30), (3, 1, 2, 2), (-3, 1, 2, 2),
            # Items that are no integers.
            (0, True, 2, 2), (False, 1, 2, 2), (0, 1, 2, None), (0, 1, 2, "2"), ("0", 1, 2, 2),
            (0, 1, 2, (2,)), (0, 1, [2], 2), ({}, 1, 2, 2), (None,) * 4,
            # No tuples.
            [0, 1, 2, 2], [], "0122", "", b"0122", None, True, False, 0, 2, -1, 10 ** 30, {},
            {0: 0, 1: 1, 2: 2, 3: 2}, ((0, 1, 2, 2),), [(0, 1, 2, 2)],
        ):
            self.judges(False, shows_best_walk, LINE, state, 0, 3, value)

    def test_of_no_step(self):
        for value in ((0,), (), (True,), (1, 1), [1], 1, None, "1", (2,), ((1,),)):
            self.judges(False, shows_best_walk, LINE, (0, 1, 2), 1, 0, value)

    def test_of_sixty_steps(self):
        best = (1, 2, 0) * 20 + (1,)
        for value in (
            best[:-1], best + (2,), best[:-1] + (0,), best[:-1] + (True,), list(best), best[1:] + (2,),
            (1,) + best[:-1], best[::-1],
        ):
            self.judges(False, shows_best_walk, THREE, (0, 1, 2), 1, 60, value)

    def test_in_a_web_of_several_parts(self):
        state = (0, 0, 1, 2, 1, 0, 0, 0, 2)
        self.judges(True, shows_best_walk, LOTS, state, 0, 2, (0, 4, 8))
        self.judges(False, shows_best_walk, LOTS, state, 0, 2, (0, 1, 5))
        self.judges(False, shows_best_walk, LOTS, state, 0, 2, (2, 3, 7))
        self.judges(True, shows_best_walk, LOTS, state, 6, 2, (6, 6, 6))


class WrongArgumentsTest(Asking, unittest.TestCase):
    def test_no_folk_and_no_numbers(self):
        for value in wrong_folk(3):
            self.raises(BadFolk, best_walk, LINE, (0, 1, 2), value, 2)
            self.raises(BadFolk, shows_best_walk, LINE, (0, 1, 2), value, 2, (0, 1, 2))
        for value in (-1, 61, 10 ** 30, True, "2", None, *wrong_numbers(0, 60)):
            self.raises(BadNumber, best_walk, LINE, (0, 1, 2), 0, value)
            self.raises(BadNumber, shows_best_walk, LINE, (0, 1, 2), 0, value, (0, 1, 2))

    def test_indexes_of_wrong_webs(self):
        for value, index in wrong_webs():
            error = self.raises(BadWeb, best_walk, value, (0, 1, 2), 0, 2)
            self.assertEqual(index, error.index)
            error = self.raises(BadWeb, shows_best_walk, value, (0, 1, 2), 0, 2, None)
            self.assertEqual(index, error.index)

    def test_the_leftmost_argument_comes_first(self):
        rows = (
            (LINE, BadWeb, [value for value, _ in wrong_webs()]),
            ((0, 1, 2), BadState, wrong_states(3)),
            (0, BadFolk, wrong_folk(3)),
            (2, BadNumber, wrong_numbers(0, 60)),
        )
        self.tells_leftmost(best_walk, *rows)
        for value in ((0, 1, 2), (0, 2, 1), [0], None, True):
            self.tells_leftmost(
                lambda *arguments: shows_best_walk(*arguments, value), *rows,
            )


class ArgumentsTest(Asking, unittest.TestCase):
    def test_arguments_are_left_as_they_are(self):
        for web in (LINE, [3, [[0, 1]]]):
            for state in ((0, 1, 2), [0, 1, 2]):
                self.keeps(best_walk, web, state, 0, 9)
                self.keeps(best_walk, web, state, [0], [9])
                for value in ((0, 1, 2), [0, 1, 2], (0, [1], 2), {0: [1]}, ([0], 1, 2)):
                    self.keeps(shows_best_walk, web, state, 0, 2, value)

    def test_equal_values_are_judged_alike(self):
        for web, state in WOUND:
            best = best_walk(web, state, 0, 30)
            self.judges(True, shows_best_walk, web, state, 0, 30, best)
            self.judges(True, shows_best_walk, web, state, 0, 30, tuple(list(best)))


if __name__ == "__main__":
    unittest.main()
