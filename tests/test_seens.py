import itertools
import unittest

from tests.samples import (
    ALONE, APART, FOUR, FULL, LINE, LOOSE, LOTS, NO_INTEGERS, THREE, Asking, all_states, line_of,
    ring_of, small_webs, unlike_webs, wrong_folk, wrong_webs,
)
from tests.slow_ways import ticks_in
from threemoods.errors import BadFolk, BadWeb, NotText, TooMany
from threemoods.seens import fits, sure
from threemoods.whens import story

# Values that are no text of 1 to 60 figures 0, 1 and 2.
NO_TOLD = (
    "", "3", " 0", "0 ", "0 1", "01\n", "-1", "+1", "0.", "a", "01x", "x01", "\u0661", "\u00b2",
    "\uff10", "0\u0662", "0" * 61, "012" * 30, "0" * 59 + "33", "2" * 60 + "3", b"01",
    1, 10, *(value for value in NO_INTEGERS if value not in ("0", "1")), ("0", "1"), ["0"],
)
ASKED = (fits, sure)
PAIR = (2, ((0, 1),))


def stories_in(web, one, last):
    """The states of a web by the moods of one at the ticks 0 to last, all by running."""
    found = {}
    for state in all_states(web[0]):
        now, told = state, str(state[one])
        for _ in range(last):
            now = ticks_in(web)[now]
            told += str(now[one])
        found.setdefault(told, []).append(state)
    return found


def sure_of(states):
    """The moods that folk have in all of some states, None for none of such."""
    if not states:
        return None
    return tuple(moods[0] if len(set(moods)) == 1 else None for moods in zip(*states))


class SeensTest(unittest.TestCase):
    def check(self, web, one, told, states):
        found = fits(web, one, told)
        self.assertIsInstance(found, tuple)
        self.assertEqual(tuple(states), found, (web, one, told))
        self.assertEqual(sure_of(states), sure(web, one, told), (web, one, told))

    def check_all(self, web, length):
        """Check every story of a length that could be told of each of the folk."""
        for one in range(web[0]):
            stories = stories_in(web, one, length - 1)
            for figures in itertools.product("012", repeat=length):
                told = "".join(figures)
                self.check(web, one, told, stories.get(told, []))

    def test_examples_of_the_interface(self):
        self.assertEqual(((0, 1),), fits(PAIR, 0, "01"))
        self.assertEqual((0, 1), sure(PAIR, 0, "01"))
        self.assertEqual((0, None), sure(PAIR, 0, "0"))
        self.assertIsNone(sure((2, ()), 0, "01"))

    def test_small_webs(self):
        for web in small_webs(3):
            for length in (1, 2, 3, 4):
                self.check_all(web, length)
        for web in unlike_webs(4):
            for length in (1, 2, 3, 4):
                self.check_all(web, length)

    def test_webs_of_five_folk(self):
        for at, web in enumerate(unlike_webs(5)):
            one = at % 5
            for length in (1, 2, 3, 4):
                stories = stories_in(web, one, length - 1)
                for figures in itertools.product("012", repeat=length):
                    told = "".join(figures)
                    if length < 4 or told in stories or told[0] == "1":
                        self.check(web, one, told, stories.get(told, []))

    def test_stories_of_sixty_figures(self):
        for web in (LINE, THREE, FOUR, ring_of(5), ALONE, PAIR):
            for one in range(web[0]):
                for told, states in stories_in(web, one, 59).items():
                    self.assertEqual(60, len(told))
                    self.check(web, one, told, states)
        for web in (ring_of(7), line_of(7), (7, THREE[1] + ((3, 4), (4, 5)))):
            stories = stories_in(web, 1, 59)
            for told in sorted(stories)[::9]:
                self.check(web, 1, told, stories[told])

    def test_what_is_told_of_a_state_fits_it(self):
        for web in (FOUR, (7, ((0, 1), (0, 6), (1, 2), (1, 3), (2, 3), (5, 6))), ring_of(6)):
            for state in itertools.islice(all_states(web[0]), 1, None, 331):
                for one in range(web[0]):
                    for last in (0, 1, 4, 59):
                        told = story(web, state, one, last)
                        self.assertIn(state, fits(web, one, told))
                        moods = sure(web, one, told)
                        self.assertEqual(state[one], moods[one])
                        for mood, known in zip(state, moods):
                            self.assertIn(known, (mood, None))

    def test_values(self):
        self.assertEqual(((2,),), fits(ALONE, 0, "2" * 60))
        self.assertEqual((), fits(ALONE, 0, "20"))
        self.assertIsNone(sure(ALONE, 0, "20"))
        self.assertEqual((), fits(LINE, 0, "02"))
        self.assertEqual(((0, 1, 2),), fits(LINE, 0, "012"))
        self.assertEqual((0, 1, 2), sure(LINE, 0, "012"))
        self.assertEqual(((0, 1, 2),), fits(THREE, 1, "120" * 20)[:1])
        self.assertEqual(729, len(fits((7, ()), 3, "1" * 60)))
        self.assertEqual((None, None, None, 1, None, None, None), sure((7, ()), 3, "1" * 60))


class WrongArgumentsTest(Asking, unittest.TestCase):
    def test_no_told(self):
        for function in ASKED:
            for value in NO_TOLD:
                self.raises(NotText, function, LINE, 0, value)
            self.assertTrue(function(ALONE, 0, "0" * 60))
            self.assertTrue(function(ALONE, 0, "0"))

    def test_no_folk(self):
        for function in ASKED:
            for web in (ALONE, LINE, (7, ()), LOOSE):
                for value in wrong_folk(web[0]):
                    self.raises(BadFolk, function, web, value, "0")
                    self.raises(BadFolk, function, web, value, "")

    def test_too_many_folk(self):
        for function in ASKED:
            for web in ((8, ()), line_of(8), LOTS, APART, FULL, LOOSE):
                self.assertEqual(7, self.raises(TooMany, function, web, 0, "0").most)
                self.assertEqual(7, self.raises(TooMany, function, web, 7, "02" * 30).most)
                self.raises(BadFolk, function, web, web[0], "0")
                self.raises(BadFolk, function, web, -1, "")
                for value in NO_TOLD:
                    self.raises(NotText, function, web, 0, value)
            self.assertEqual(1, self.raises(BadWeb, function, (8, ((0, 1), 0)), 9, "3").index)

    def test_indexes_of_wrong_webs(self):
        for function in ASKED:
            for value, index in wrong_webs():
                self.assertEqual(index, self.raises(BadWeb, function, value, 0, "0").index)

    def test_the_leftmost_argument_comes_first(self):
        for function in ASKED:
            for web in (LINE, LOTS):
                self.tells_leftmost(
                    function, (web, BadWeb, [value for value, _ in wrong_webs()]),
                    (0, BadFolk, wrong_folk(web[0])), ("012", NotText, NO_TOLD),
                )


class ArgumentsTest(Asking, unittest.TestCase):
    def test_arguments_are_left_as_they_are(self):
        for function in ASKED:
            for web in (LINE, THREE, LOTS, [3, [[0, 1]]]):
                for one in (0, 1, [0]):
                    for told in ("0", "01", ["0"], {"0": [1]}):
                        self.keeps(function, web, one, told)


if __name__ == "__main__":
    unittest.main()
