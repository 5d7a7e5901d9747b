import itertools
import random
import unittest

from tests.samples import (
    ALONE, APART, FOUR, FULL, LINE, LOOSE, LOTS, THREE, WOUND, Asking, all_states, line_of,
    random_cases, ring_of, wrong_states, wrong_webs,
)
from tests.slow_ways import COUNTS, neighbours_in, rest_by_ticks, round_by_ticks, states_by_ticks
from threemoods.desk import Desk
from threemoods.errors import BadState, BadWeb, InvalidText, NotText
from threemoods.moods import tick
from threemoods.speeds import speed

MOST = 10 ** 30
ODD = (0, 1, 2, 2, 1, 0, 0, 2, 1, 1)
NO_LINES = (None, True, False, 0, 1, (), ("tick",), ["tick"], {"tick": 1}, b"tick", [], {})
# Words that are no number from 1 to 10 ** 30.
NO_TICKS = (
    "", "0", "00", "01", "010", "+1", "-1", "1.", "1.0", "1e3", "x", str(MOST + 1), str(10 * MOST),
    "9" * 31, "9" * 5000, "0" + str(MOST), "\u0661", "\uff11", "\u00b2", "1\n", "\t1", "1_0", "0x1",
    "tick", "10**30", "1,000", "1\u00a0",
)
# Words that are no figure of three folk, and none of a mood.
NO_FIGURES = (
    "", "3", "4", "9", "10", "00", "01", "-1", "+1", "-0", "a", "\u0661", "\uff11", "\u00b9", "1\n",
    "0.", "1.0", "0,1", "all", "None", "True", "2\u00a0", "9" * 5000,
)


class Reckoning:
    """A desk kept by hand: what each line should do and answer."""

    def __init__(self, web, state):
        self.web = web
        self.state = state
        self.ticks = 0
        self.past = []

    def go_on(self, many):
        """Let ticks go by, one by one, but for whole rounds."""
        first, period = round_by_ticks(self.web, self.state)
        short = many if many < first else first + (many - first) % period
        self.state = states_by_ticks(self.web, self.state, short)[short]
        self.ticks += many

    def run(self, line):
        """The answer to a line that can stand."""
        word, *numbers = line.split(" ")
        if word in ("tick", "ticks", "paint"):
            self.past.append((self.state, self.ticks))
        if word in ("tick", "ticks"):
            self.go_on(int((numbers or ["1"])[0]))
        elif word == "paint":
            moods = list(self.state)
            moods[int(numbers[0])] = int(numbers[1])
            self.state = tuple(moods)
        elif word == "back":
            self.state, self.ticks = self.past.pop()
        else:
            return self.answer(word, numbers)
        return ""

    def answer(self, word, numbers):
        """The answer to a line that asks."""
        if word == "state":
            return "".join(map(str, self.state))
        if word == "speed":
            return "{}/{}".format(*speed(self.web, self.state)[int(numbers[0])])
        if word == "rest":
            found = rest_by_ticks(self.web, self.state)
            return "never" if found is None else str(found[0])
        folk = [
            str(one) for one, near in enumerate(neighbours_in(self.web))
            if any(COUNTS[self.state[one], self.state[other]] == 1 for other in near)
        ]
        return " ".join(folk) or "nobody"


def random_line(chance, many):
    """A line about so many folk that can stand, but for back."""
    one, mood = chance.randrange(many), chance.randrange(3)
    return chance.choice((
        "tick", "tick", f"ticks {chance.randint(1, 30)}", f"ticks {chance.randint(1, MOST)}",
        f"paint {one} {mood}", f"paint {one} {mood}", "back", "back", "state", "stirred", "rest",
        f"speed {one}",
    ))


class DeskTest(Asking, unittest.TestCase):
    def shows(self, desk, state, ticks):
        """Check both properties of a desk."""
        self.assertEqual(state, desk.state)
        self.assertIsInstance(desk.state, tuple)
        self.assertEqual(ticks, desk.ticks)
        self.assertIs(int, desk.ticks.__class__)

    def test_examples_of_the_interface(self):
        desk = Desk(THREE, (0, 1, 2))
        lines = ("ticks 1000000", "state", "speed 0", "paint 1 0", "rest", "back")
        self.assertEqual(["", "120", "1/1", "", "1", ""], [desk.run(line) for line in lines])
        self.shows(desk, (1, 2, 0), 1000000)
        self.assertEqual(1, self.raises(InvalidText, desk.run, "ticks").word)

    def test_a_new_desk(self):
        for web, state in (*WOUND, (ALONE, (2,)), (LOOSE, ODD), (FULL, ODD), (LOTS, ODD[:9])):
            self.shows(Desk(web, state), state, 0)

    def test_wrong_arguments(self):
        for value, index in wrong_webs():
            self.assertEqual(index, self.raises(BadWeb, Desk, value, (0, 1, 2)).index)
        self.tells_leftmost(
            Desk, (LINE, BadWeb, [value for value, _ in wrong_webs()]),
            ((0, 1, 2), BadState, wrong_states(3)),
        )

    def test_arguments_are_left_as_they_are(self):
        for web in (LINE, THREE, [3, [[0, 1]]], (3, [[0, 1]])):
            for state in ((0, 1, 2), [0, 1, 2], (0, [1], 2)):
                self.keeps(Desk, web, state)
        desk = Desk(LINE, (0, 1, 2))
        for line in ("tick", ["tick"], {"tick": [1]}):
            self.keeps(desk.run, line)

    def test_long_rows_of_lines(self):
        cases = [*WOUND[::3], (ALONE, (1,)), (LOOSE, ODD), (THREE, (0, 1, 2)), (line_of(10), ODD)]
        for seed, (web, state) in enumerate((*cases, *random_cases(8, seed=71))):
            chance = random.Random(seed)
            desk, own = Desk(web, state), Reckoning(web, state)
            for _ in range(90):
                line = random_line(chance, web[0])
                if line == "back" and not own.past:
                    self.assertEqual(0, self.raises(InvalidText, desk.run, line).word)
                else:
                    self.assertEqual(own.run(line), desk.run(line), (web, state, line))
                self.shows(desk, own.state, own.ticks)

    def test_two_desks_are_independent(self):
        first, second = Desk(THREE, (0, 1, 2)), Desk(THREE, (0, 1, 2))
        first.run("tick")
        self.shows(second, (0, 1, 2), 0)
        self.assertEqual(0, self.raises(InvalidText, second.run, "back").word)
        second.run("paint 0 1")
        second.run("ticks 7")
        self.shows(first, (1, 2, 0), 1)
        first.run("back")
        self.shows(first, (0, 1, 2), 0)
        self.shows(second, states_by_ticks(THREE, (1, 1, 2), 7)[7], 7)
        self.assertEqual(0, self.raises(InvalidText, first.run, "back").word)
        second.run("back")
        self.shows(second, (1, 1, 2), 0)


class ChangingLinesTest(Asking, unittest.TestCase):
    def test_tick(self):
        for web, state in (*WOUND, (ALONE, (2,)), (LINE, (0, 1, 2))):
            desk = Desk(web, state)
            for many in range(1, 9):
                self.assertEqual("", desk.run("tick"))
                self.assertEqual((states_by_ticks(web, state, many)[many], many), (desk.state, desk.ticks))

    def test_ticks(self):
        for many in (1, 2, 3, 9, 10, 99, 100, 10 ** 15, MOST - 1, MOST):
            desk = Desk(THREE, (0, 1, 2))
            self.assertEqual("", desk.run(f"ticks {many}"))
            moods = [(mood + many) % 3 for mood in range(3)]
            self.assertEqual((tuple(moods), many), (desk.state, desk.ticks))

    def test_ticks_go_on_beyond_the_greatest_number_of_one_line(self):
        desk = Desk(FOUR, (0, 1, 2, 2))
        for many in range(1, 5):
            desk.run(f"ticks {MOST}")
            self.assertEqual(many * MOST, desk.ticks)
        desk.run("tick")
        self.assertEqual(4 * MOST + 1, desk.ticks)
        self.assertEqual(states_by_ticks(FOUR, (0, 1, 2, 2), 1)[1], desk.state)

    def test_paint(self):
        for one, mood in itertools.product(range(3), repeat=2):
            desk = Desk(LINE, (0, 1, 2))
            self.assertEqual("", desk.run(f"paint {one} {mood}"))
            moods = [0, 1, 2]
            moods[one] = mood
            self.assertEqual((tuple(moods), 0), (desk.state, desk.ticks))
        desk = Desk(LOOSE, (0,) * 10)
        desk.run("paint 9 2")
        self.assertEqual((0,) * 9 + (2,), desk.state)

    def test_back_over_each(self):
        desk = Desk(THREE, (0, 1, 2))
        lines = ("tick", "ticks 5", "paint 0 0", "paint 0 0", f"ticks {MOST}", "tick", "paint 2 1")
        shown = [(desk.state, desk.ticks)]
        for line in lines:
            desk.run(line)
            shown.append((desk.state, desk.ticks))
        for state, ticks in shown[-2::-1]:
            self.assertEqual("", desk.run("back"))
            self.assertEqual((state, ticks), (desk.state, desk.ticks))
        for _ in range(2):
            self.assertEqual(0, self.raises(InvalidText, desk.run, "back").word)
            self.assertEqual(((0, 1, 2), 0), (desk.state, desk.ticks))
        # What was taken back may be done anew.
        desk.run("tick")
        self.assertEqual(((1, 2, 0), 1), (desk.state, desk.ticks))
        desk.run("back")
        self.assertEqual(0, self.raises(InvalidText, desk.run, "back").word)

    def test_lines_that_ask_are_not_taken_back(self):
        desk = Desk(LINE, (0, 1, 2))
        desk.run("tick")
        for line in ("state", "stirred", "rest", "speed 1"):
            desk.run(line)
        self.assertEqual((1, 2, 2), desk.state)
        desk.run("back")
        self.assertEqual((0, 1, 2), desk.state)
        for line in ("state", "stirred", "rest", "speed 1"):
            desk.run(line)
            self.assertEqual(0, self.raises(InvalidText, desk.run, "back").word)

    def test_lines_that_change_nothing_are_taken_back_too(self):
        desk = Desk(LINE, (2, 2, 2))
        for line in ("tick", "ticks 3", "paint 1 2"):
            desk.run(line)
        self.assertEqual(4, desk.ticks)
        for ticks in (4, 1, 0):
            desk.run("back")
            self.assertEqual(((2, 2, 2), ticks), (desk.state, desk.ticks))
        self.raises(InvalidText, desk.run, "back")


class AskingLinesTest(unittest.TestCase):
    def test_small_webs(self):
        for web in (ALONE, LINE, THREE, FOUR):
            for state in all_states(web[0]):
                desk, own = Desk(web, state), Reckoning(web, state)
                for line in ("state", "stirred", "rest", "speed 0", f"speed {web[0] - 1}"):
                    self.assertEqual(own.run(line), desk.run(line), (web, state, line))

    def test_greater_webs(self):
        for web, state in (*WOUND, (LOOSE, ODD), (FULL, ODD), *random_cases(30, seed=72)):
            desk, own = Desk(web, state), Reckoning(web, state)
            for line in ("state", "stirred", "rest", *(f"speed {one}" for one in range(web[0]))):
                self.assertEqual(own.run(line), desk.run(line), (web, state, line))

    def test_values(self):
        desk = Desk(line_of(10), ODD)
        self.assertEqual("0122100211", desk.run("state"))
        some = Desk(line_of(10), (0, 1, 2, 2, 1, 0, 1, 0, 0, 1))
        self.assertEqual("0 1 4 5 7 8", some.run("stirred"))
        self.assertEqual("nobody", Desk(LINE, (1, 1, 1)).run("stirred"))
        self.assertEqual("nobody", Desk(LOOSE, ODD).run("stirred"))
        self.assertEqual("0 1 2", Desk(THREE, (0, 1, 2)).run("stirred"))
        self.assertEqual("never", Desk(THREE, (0, 1, 2)).run("rest"))
        self.assertEqual("0", Desk(LINE, (1, 1, 1)).run("rest"))
        self.assertEqual("9", Desk(line_of(10), (0, 1, 2, 0, 1, 2, 0, 1, 2, 0)).run("rest"))
        self.assertEqual("0/1", Desk(LINE, (0, 1, 2)).run("speed 2"))
        self.assertEqual("3/4", Desk(FOUR, (0, 1, 2, 2)).run("speed 3"))
        self.assertEqual("9/10", Desk(ring_of(10), (0, 1, 2, 0, 1, 2, 0, 1, 2, 2)).run("speed 9"))
        apart = Desk(APART, (0, 1, 2) + (0,) * 7)
        self.assertEqual(["1/1", "0/1"], [apart.run("speed 2"), apart.run("speed 3")])

    def test_rest_is_counted_from_now(self):
        desk = Desk(LINE, (0, 1, 2))
        for rest in ("2", "1", "0", "0"):
            self.assertEqual(rest, desk.run("rest"))
            desk.run("tick")


class WrongLinesTest(Asking, unittest.TestCase):
    def setUp(self):
        self.desk = Desk(LINE, (0, 1, 2))
        self.desk.run("ticks 4")
        self.desk.run("paint 0 1")

    def wrong(self, line, word):
        """Check the error of a line, and that it changes nothing."""
        before = (self.desk.state, self.desk.ticks)
        self.assertEqual(word, self.raises(InvalidText, self.desk.run, line).word, repr(line))
        self.assertEqual(before, (self.desk.state, self.desk.ticks))

    def tearDown(self):
        # Lines that raised left nothing to take back, and took nothing back.
        self.assertEqual(((1, 2, 2), 4), (self.desk.state, self.desk.ticks))
        self.desk.run("back")
        self.assertEqual(((2, 2, 2), 4), (self.desk.state, self.desk.ticks))
        self.desk.run("back")
        self.assertEqual(((0, 1, 2), 0), (self.desk.state, self.desk.ticks))
        self.assertEqual(0, self.raises(InvalidText, self.desk.run, "back").word)

    def test_no_texts(self):
        for value in NO_LINES:
            self.raises(NotText, self.desk.run, value)

    def test_other_first_words(self):
        for word in ("", "Tick", "TICK", "ticked", "tic", "paints", "go", "0", "1", "x", "undo",
                     "states", "ticks1", "tick\n", "\ttick", "tick\t", "nobody", "never",
                     "state\n", "\u0661", "run", "folk"):
            for behind in ("", " ", " 1", " 0 1", " 0 1 2", " x"):
                self.wrong(word + behind, 0)
        for line in (" tick", "  tick", " ", "  ", " ticks 1", " paint 0 1", " state"):
            self.wrong(line, 0)

    def test_a_number_of_ticks(self):
        for word in NO_TICKS:
            self.wrong("ticks " + word, 1)
            self.wrong(f"ticks {word} ", 1)
            self.wrong(f"ticks {word} 1", 1)
        self.wrong("ticks  1", 1)

    def test_a_figure_and_a_mood(self):
        for word in NO_FIGURES:
            self.wrong("paint " + word, 1)
            self.wrong(f"paint {word} 0", 1)
            self.wrong(f"paint {word} x y", 1)
            self.wrong("speed " + word, 1)
            self.wrong(f"speed {word} 0", 1)
            self.wrong("paint 0 " + word, 2)
            self.wrong(f"paint 2 {word} 0", 2)
        self.wrong("paint  0 1", 1)
        self.wrong("paint 0  1", 2)
        self.wrong("speed  1", 1)

    def test_words_that_are_lacking(self):
        self.wrong("ticks", 1)
        self.wrong("paint", 1)
        self.wrong("paint 0", 2)
        self.wrong("speed", 1)

    def test_words_too_many(self):
        for line in ("tick", "back", "state", "stirred", "rest", "ticks 1", "speed 0", "paint 0 1"):
            for word in ("", "0", "1", "x", "tick", line):
                for behind in ("", " ", " 0", " x y"):
                    self.wrong(f"{line} {word}{behind}", len(line.split(" ")))

    def test_figures_of_webs_of_other_sizes(self):
        for many in range(1, 11):
            desk = Desk((many, ()), (0,) * many)
            for one in range(12):
                for line, word in ((f"speed {one}", 1), (f"paint {one} 2", 1)):
                    if one < many:
                        desk.run(line)
                    else:
                        self.assertEqual(word, self.raises(InvalidText, desk.run, line).word)
            self.assertEqual((2,) * many, desk.state)

    def test_nothing_to_take_back(self):
        desk = Desk(LINE, (0, 1, 2))
        for line in ("tick 1", "ticks 0", "paint 0 3", "back"):
            self.raises(InvalidText, desk.run, line)
        # With nothing to take back the word itself cannot stand, whatever is behind it.
        for line in ("back", "back ", "back 1", "back back"):
            self.assertEqual(0, self.raises(InvalidText, desk.run, line).word)
        self.assertEqual(((0, 1, 2), 0), (desk.state, desk.ticks))
        desk.run("tick")
        self.assertEqual(tick(LINE, (0, 1, 2)), desk.state)


if __name__ == "__main__":
    unittest.main()
