import unittest

from tests.samples import (
    ALONE, APART, FULL, LINE, LOOSE, LOTS, MIXED, TAILED, THREE, Asking, all_states, line_of,
    random_cases, ring_of, small_webs, unlike_webs, wrong_states, wrong_webs,
)
from threemoods.errors import BadState, BadWeb, InvalidText, NotText
from threemoods.notation import read_state, read_web, write_state, write_web

ODD = (0, 1, 2, 2, 1, 0, 0, 2, 1, 1)
WEBS = (LINE, BadWeb, [value for value, _ in wrong_webs()])
NO_TEXTS = (
    None, True, False, 0, 12, -1, (), [], {}, ("folk", "1"), ["folk 1"], {"folk": 1}, ("0", "1"),
    b"folk 1", b"012", ["012"], (0, 1, 2),
)
# Words that are no number of folk, and words that are no street of three folk.
NO_MANY = (
    "", "0", "11", "01", "00", "010", "1.", "1.0", "+1", "-1", "1-", "x", "ten", "folk", "1\n",
    "\t1", "100", "9" * 40, "9" * 5000, "\u0663", "\uff13", "\u00b3", "1e1", "0x1", "1_0", "3\u00a0",
)
NO_STREETS = (
    "", "0", "01", "0-", "-1", "-", "--", "0--1", "0-1-2", "0-1-", "-0-1", "0_1", "0+1", "0:1",
    "0-3", "3-4", "1-0", "2-0", "2-1", "0-0", "2-2", "00-1", "0-01", "a-b", "0-b", "a-1", "0-1\n",
    "\n0-1", "0-+1", "+0-1", "0\u20131", "0-\u0661", "\u0660-1", "0,1", "0-1,", "folk", "3", "0-1.",
    "10-11", "0-10", "0-" + "9" * 5000, "(0-1)", "0-1\t", "0-1\u00a0",
)


class WritingTest(Asking, unittest.TestCase):
    def test_examples_of_the_interface(self):
        self.assertEqual("folk 3 0-1 0-2 1-2", write_web(THREE))
        self.assertEqual((2, ((0, 1),)), read_web("folk 2 0-1"))
        self.assertEqual("012", write_state(THREE, (0, 1, 2)))
        self.assertEqual((2, 1, 0), read_state(THREE, "210"))
        self.assertEqual(2, self.raises(InvalidText, read_web, "folk 3 1-0").word)

    def test_webs_are_written_and_read_back(self):
        webs = [web for web, _ in random_cases(40, seed=61)]
        for web in (
            *small_webs(4), *unlike_webs(5), ALONE, LOOSE, FULL, LOTS, APART, MIXED, TAILED,
            line_of(10), ring_of(10), *webs,
        ):
            text = write_web(web)
            words = ["folk", str(web[0])] + [f"{one}-{other}" for one, other in web[1]]
            self.assertEqual(" ".join(words), text)
            self.assertEqual(web, read_web(text))

    def test_states_are_written_and_read_back(self):
        for web in (ALONE, (2, ()), LINE, THREE, line_of(4), (5, ())):
            for state in all_states(web[0]):
                text = write_state(web, state)
                self.assertEqual("".join(map(str, state)), text)
                self.assertEqual(state, read_state(web, text))
        for web in (FULL, LOOSE):
            self.assertEqual("0122100211", write_state(web, ODD))
            self.assertEqual(ODD, read_state(web, "0122100211"))

    def test_values(self):
        self.assertEqual("folk 10", write_web(LOOSE))
        self.assertEqual("folk 1", write_web(ALONE))
        self.assertEqual("folk 10 0-9 8-9", write_web((10, ((0, 9), (8, 9)))))
        self.assertEqual((10, ((0, 9), (8, 9))), read_web("folk 10 0-9 8-9"))
        self.assertEqual((10, ()), read_web("folk 10"))

    def test_wrong_arguments(self):
        for value, index in wrong_webs():
            self.assertEqual(index, self.raises(BadWeb, write_web, value).index)
            self.assertEqual(index, self.raises(BadWeb, write_state, value, (0, 1, 2)).index)
            self.assertEqual(index, self.raises(BadWeb, read_state, value, "012").index)
        self.tells_leftmost(write_state, WEBS, ((0, 1, 2), BadState, wrong_states(3)))
        for web in (ALONE, LOOSE):
            for value in wrong_states(web[0]):
                self.raises(BadState, write_state, web, value)


class ReadWebTest(Asking, unittest.TestCase):
    def wrong(self, text, word):
        self.assertEqual(word, self.raises(InvalidText, read_web, text).word, repr(text))

    def test_the_first_word(self):
        for word in ("", "Folk", "FOLK", "folk:", "fol", "folks", "web", "3", "folk\n", "\nfolk",
                     "folk\t3", "0-1", "folk\u00a03"):
            self.wrong(word, 0)
            self.wrong(word + " ", 0)
            self.wrong(word + " 3 0-1", 0)
            self.wrong(word + " x 1-0", 0)
        self.wrong(" folk 3", 0)
        self.wrong("  folk 3", 0)
        self.wrong(" ", 0)
        self.wrong("3 folk", 0)

    def test_the_number(self):
        self.wrong("folk", 1)
        for word in NO_MANY:
            self.wrong("folk " + word, 1)
            self.wrong(f"folk {word} ", 1)
            self.wrong(f"folk {word} 0-1", 1)
            self.wrong(f"folk {word} 1-0 x", 1)
        self.wrong("folk  3", 1)
        self.wrong("folk 0-1", 1)
        for many in range(1, 11):
            self.assertEqual((many, ()), read_web(f"folk {many}"))

    def test_a_street(self):
        for word in NO_STREETS:
            self.wrong("folk 3 " + word, 2)
            self.wrong(f"folk 3 {word} 0-2", 2)
            self.wrong(f"folk 3 0-1 {word}", 3)
            self.wrong(f"folk 3 0-1 0-2 {word} 1-2", 4)
            self.wrong(f"folk 3 0-1 0-2 1-2 {word}", 5)
        self.wrong("folk 1 0-1", 2)
        self.wrong("folk 9 0-8 0-9", 3)
        self.wrong("folk 10 0-9 0-10", 3)

    def test_streets_that_do_not_ascend(self):
        self.wrong("folk 3 0-1 0-1", 3)
        self.wrong("folk 3 0-2 0-1", 3)
        self.wrong("folk 3 1-2 0-1", 3)
        self.wrong("folk 3 1-2 0-2", 3)
        self.wrong("folk 3 0-1 1-2 0-2", 4)
        self.wrong("folk 3 0-1 0-2 0-2 1-2", 4)
        self.wrong("folk 3 0-1 0-2 1-2 0-1", 5)
        self.wrong("folk 3 0-1 0-1 x", 3)

    def test_blanks(self):
        self.wrong("folk 3 ", 2)
        self.wrong("folk 3  0-1", 2)
        self.wrong("folk 3 0-1 ", 3)
        self.wrong("folk 3 0-1  1-2", 3)
        self.wrong("folk 3 0-1 1-2  ", 4)
        self.wrong("folk 3\t0-1", 1)
        self.wrong("folk 3\n0-1", 1)
        self.wrong("folk ", 1)

    def test_no_texts(self):
        for value in NO_TEXTS:
            self.raises(NotText, read_web, value)
            for web in (ALONE, LINE, LOOSE):
                self.raises(NotText, read_state, web, value)


class ReadStateTest(Asking, unittest.TestCase):
    def wrong(self, web, text):
        self.assertEqual(0, self.raises(InvalidText, read_state, web, text).word, repr(text))

    def test_too_few_and_too_many(self):
        for web in (ALONE, LINE, LOOSE):
            for many in range(13):
                if many == web[0]:
                    self.assertEqual((2,) * many, read_state(web, "2" * many))
                else:
                    self.wrong(web, "2" * many)
            self.wrong(web, "0" * 5000)

    def test_other_signs(self):
        for sign in "3 9-+a.\n\t\u0661\u00b2\uff11\u00a0_":
            self.wrong(ALONE, sign)
            for at in range(3):
                self.wrong(LINE, "012"[:at] + sign + "012"[at + 1:])
            self.wrong(LINE, "012" + sign)
            self.wrong(LINE, sign + "012")
        for text in ("0 1 2", "0,1,2", "(0, 1, 2)", "x", "0-1", "+12", "1_2"):
            self.wrong(LINE, text)

    def test_the_web_comes_first(self):
        self.tells_leftmost(read_state, WEBS, ("012", NotText, NO_TEXTS))
        for web in WEBS[2]:
            self.raises(BadWeb, read_state, web, "9")


class ArgumentsTest(Asking, unittest.TestCase):
    def test_arguments_are_left_as_they_are(self):
        for web in (LINE, THREE, [3, [[0, 1]]], (3, [[0, 1]])):
            self.keeps(write_web, web)
            for value in ((0, 1, 2), [0, 1, 2], (0, [1], 2), "012", ["0"], {"0": []}):
                self.keeps(write_state, web, value)
                self.keeps(read_state, web, value)
                self.keeps(read_web, value)


if __name__ == "__main__":
    unittest.main()
