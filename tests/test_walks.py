import unittest

from tests.samples import (
    ALONE, FOUR, FULL, LINE, LOOSE, LOTS, THREE, WOUND, Asking, all_states, line_of, random_cases,
    ring_of, small_webs, unlike_webs, wrong_numbers, wrong_states, wrong_webs,
)
from tests.slow_ways import (
    changes_by_ticks, greatest_by_walks, states_by_ticks, sum_along, walks_in,
)
from threemoods.errors import BadNumber, BadState, BadWeb
from threemoods.walks import changes, state_at

MOST = 10 ** 30
ODD = (0, 1, 2, 2, 1, 0, 0, 2, 1, 1)


class RunningTest(unittest.TestCase):
    """What the functions return, against ticks taken one by one."""

    def check(self, web, state, ticks):
        states = states_by_ticks(web, state, max(ticks))
        counts = changes_by_ticks(states)
        for many in ticks:
            self.assertEqual(counts[many], changes(web, state, many), (web, state, many))
            self.assertEqual(states[many], state_at(web, state, many), (web, state, many))

    def test_all_webs_of_three_folk(self):
        for web in small_webs(3):
            for state in all_states(web[0]):
                self.check(web, state, range(37))

    def test_all_unlike_webs_of_four_folk(self):
        for web in unlike_webs(4):
            for state in all_states(4):
                self.check(web, state, range(37))

    def test_all_webs_of_four_folk_at_some_ticks(self):
        for web in small_webs(4):
            for state in all_states(web[0]):
                self.check(web, state, (1, 2, 4, 30))

    def test_all_unlike_webs_of_five_folk_at_some_ticks(self):
        for web in unlike_webs(5):
            for state in all_states(5):
                self.check(web, state, (0, 3, 41))

    def test_ten_folk(self):
        for web in (line_of(10), ring_of(10), FULL, LOOSE):
            self.check(web, ODD, range(80))
        self.check(LOTS, ODD[:9], range(80))
        for web, state in WOUND:
            self.check(web, state, range(200))

    def test_many_folk_in_many_webs(self):
        for web, state in random_cases(100):
            self.check(web, state, range(0, 90, 7))


class WalkSumsTest(unittest.TestCase):
    """What the functions return, against the greatest sums of walks."""

    def check(self, web, state, many):
        counts = changes(web, state, many)
        self.assertEqual(greatest_by_walks(web, state, many), counts, (web, state, many))
        moods = tuple((mood + count) % 3 for mood, count in zip(state, counts))
        self.assertEqual(moods, state_at(web, state, many), (web, state, many))

    def test_all_walks_in_small_webs(self):
        for web in small_webs(3):
            for state in all_states(web[0]):
                for many in range(5):
                    sums = tuple(
                        max(sum_along(state, walk) for walk in walks_in(web, one, many))
                        for one in range(web[0])
                    )
                    self.assertEqual(sums, changes(web, state, many), (web, state, many))

    def test_no_tick(self):
        for web, state in ((ALONE, (2,)), (LOOSE, ODD), (FULL, ODD), *WOUND):
            self.assertEqual((0,) * web[0], changes(web, state, 0))
            self.assertEqual(state, state_at(web, state, 0))

    def test_the_greatest_numbers_of_ticks(self):
        cases = [(web, ODD) for web in (line_of(10), ring_of(10), FULL, LOOSE)]
        for web, state in (*cases, (LOTS, ODD[:9]), (FOUR, (0, 1, 2, 2)), *WOUND):
            for many in (MOST, MOST - 1, MOST - 2, MOST - 3, 10 ** 29 + 12345, 2 ** 99):
                self.check(web, state, many)

    def test_the_greatest_number_of_ticks_in_small_webs(self):
        for many in range(1, 5):
            for web in unlike_webs(many):
                for state in all_states(many):
                    self.check(web, state, MOST)

    def test_many_webs(self):
        for web, state in random_cases(100, seed=2):
            for many in (101, 10 ** 12 + 7, MOST):
                self.check(web, state, many)


class ValuesTest(unittest.TestCase):
    def test_examples_of_the_interface(self):
        self.assertEqual((2, 1, 0), changes(LINE, (0, 1, 2), MOST))
        self.assertEqual((1, 2, 0), state_at(THREE, (0, 1, 2), MOST))

    def test_rings(self):
        self.assertEqual((MOST,) * 3, changes(THREE, (0, 1, 2), MOST))
        self.assertEqual((MOST - 1,) * 3, changes(THREE, (0, 1, 2), MOST - 1))
        self.assertEqual((0, 1, 2), state_at(THREE, (0, 1, 2), MOST - 1))
        self.assertEqual((MOST * 3 // 4,) * 4, changes(FOUR, (0, 1, 2, 2), MOST))
        self.assertEqual((0, 1, 2, 2), state_at(FOUR, (0, 1, 2, 2), MOST))
        self.assertEqual((1, 2, 2, 0), state_at(FOUR, (0, 1, 2, 2), MOST - 3))

    def test_each_part_goes_its_own_way(self):
        web = (7, ((0, 1), (0, 2), (1, 2), (3, 4), (4, 5)))
        self.assertEqual((MOST,) * 3 + (2, 1, 0, 0), changes(web, (0, 1, 2, 0, 1, 2, 1), MOST))
        self.assertEqual((1, 2, 0, 2, 2, 2, 1), state_at(web, (0, 1, 2, 0, 1, 2, 1), MOST))

    def test_one_of_the_folk(self):
        for mood in range(3):
            self.assertEqual((0,), changes(ALONE, (mood,), MOST))
            self.assertEqual((mood,), state_at(ALONE, (mood,), MOST))

    def test_tuples_of_integers(self):
        for many in (0, 1, MOST):
            for found in (changes(FOUR, (0, 1, 2, 2), many), state_at(FOUR, (0, 1, 2, 2), many)):
                self.assertIsInstance(found, tuple)
                for item in found:
                    self.assertIs(int, item.__class__)


class WrongArgumentsTest(Asking, unittest.TestCase):
    def test_no_numbers(self):
        for function in (changes, state_at):
            for value in (-1, MOST + 1, True, False, "1", None, *wrong_numbers(0, MOST)):
                self.raises(BadNumber, function, LINE, (0, 1, 2), value)

    def test_indexes_of_wrong_webs(self):
        for function in (changes, state_at):
            for value, index in wrong_webs():
                self.assertEqual(index, self.raises(BadWeb, function, value, (0, 1, 2), 1).index)

    def test_the_leftmost_argument_comes_first(self):
        for function in (changes, state_at):
            self.tells_leftmost(
                function,
                (LINE, BadWeb, [value for value, _ in wrong_webs()]),
                ((0, 1, 2), BadState, wrong_states(3)),
                (5, BadNumber, wrong_numbers(0, MOST)),
            )


class ArgumentsTest(Asking, unittest.TestCase):
    def test_arguments_are_left_as_they_are(self):
        for function in (changes, state_at):
            for web in (LINE, [3, [[0, 1]]], (3, ([0, 1],))):
                for state in ((0, 1, 2), [0, 1, 2], (0, [1], 2)):
                    self.keeps(function, web, state, 12)
                    self.keeps(function, web, state, [12])

    def test_equal_arguments_have_equal_answers(self):
        for web, state in WOUND:
            self.assertEqual(changes(web, state, MOST), changes(web, state, MOST))
            self.assertEqual(state_at(web, state, MOST), state_at(web, state, MOST))


if __name__ == "__main__":
    unittest.main()
