import itertools
import unittest

from tests.samples import (
    ALONE, APART, FOUR, FULL, LINE, LOOSE, LOTS, THREE, Asking, all_states, line_of, ring_of,
    small_webs, unlike_webs, wrong_folk, wrong_states, wrong_webs,
)
from threemoods.errors import BadFolk, BadState, BadStreet, BadWeb, TooMany
from threemoods.others import joined, stretched, with_street, without_street

WEBS = (LINE, BadWeb, [value for value, _ in wrong_webs()])
# Values that are no tuple of 1 to 9 moods.
NO_MOODS = (
    (), (0,) * 10, (0,) * 11, [0], [], "0", "012", 0, None, True, {0: 1}, {},
    *[(mood,) for mood in (3, -1, True, False, None, "0", (0,), [0], 10 ** 30)],
    *[(0, 1, mood) for mood in (3, True, "2", None)],
)


def pairs_of(many):
    """All pairs of unlike folk, the lesser one first."""
    return list(itertools.combinations(range(many), 2))


class StreetsTest(Asking, unittest.TestCase):
    def test_examples_of_the_interface(self):
        self.assertEqual((3, ((0, 1), (0, 2), (1, 2))), with_street(LINE, 2, 0))
        self.assertEqual((3, ((1, 2),)), without_street(LINE, 0, 1))
        self.raises(BadStreet, with_street, LINE, 0, 1)

    def check(self, web, a, b):
        """Check both functions for a street, with its folk in both sequences."""
        many, streets = web
        for one, other in ((a, b), (b, a)):
            if (a, b) in streets:
                answer = without_street(web, one, other)
                self.assertEqual((many, tuple(sorted(set(streets) - {(a, b)}))), answer)
                self.assertEqual(web, with_street(answer, other, one))
                self.raises(BadStreet, with_street, web, one, other)
            else:
                answer = with_street(web, one, other)
                self.assertEqual((many, tuple(sorted({*streets, (a, b)}))), answer)
                self.assertEqual(web, without_street(answer, other, one))
                self.raises(BadStreet, without_street, web, one, other)
            self.assertEqual((tuple, tuple), (answer.__class__, answer[1].__class__))

    def test_all_streets_of_small_webs(self):
        for web in (*small_webs(4), *unlike_webs(5)):
            for a, b in pairs_of(web[0]):
                self.check(web, a, b)

    def test_greater_webs(self):
        for web in (LOOSE, FULL, LOTS, APART, line_of(10), ring_of(10)):
            for a, b in pairs_of(web[0]):
                self.check(web, a, b)

    def test_one_and_the_same(self):
        for web in (ALONE, LINE, THREE, FULL, LOOSE):
            for one in range(web[0]):
                self.raises(BadStreet, with_street, web, one, one)
                self.raises(BadStreet, without_street, web, one, one)

    def test_wrong_arguments(self):
        for function, web in ((with_street, (3, ())), (without_street, LINE)):
            folk = wrong_folk(3)
            self.tells_leftmost(
                function, (web, BadWeb, WEBS[2]), (0, BadFolk, folk), (1, BadFolk, folk),
            )
            for value in folk:
                # One and the same, but none of the folk: that comes first.
                self.raises(BadFolk, function, web, value, value)
            self.raises(BadFolk, function, FULL, 0, 10)
            self.raises(BadFolk, function, FULL, 10, 10)

    def test_indexes_of_wrong_webs(self):
        for value, index in wrong_webs():
            for function in (with_street, without_street):
                self.assertEqual(index, self.raises(BadWeb, function, value, 0, 0).index)


class JoinedTest(Asking, unittest.TestCase):
    def test_examples_of_the_interface(self):
        self.assertEqual((4, ((1, 2), (2, 3))), joined((1, ()), LINE))

    def test_small_webs(self):
        for web in small_webs(3):
            for other in (*small_webs(3), *unlike_webs(4)):
                moved = tuple((a + web[0], b + web[0]) for a, b in other[1])
                expected = (web[0] + other[0], web[1] + moved)
                answer = joined(web, other)
                self.assertEqual(expected, answer)
                self.assertEqual(sorted(answer[1]), list(answer[1]))

    def test_ten_and_eleven_folk(self):
        for many in range(1, 10):
            web, other = line_of(many), line_of(10 - many)
            self.assertEqual(10, joined(web, other)[0])
            self.assertEqual(8, len(joined(web, other)[1]))
            for most in ((many + 1, ()), (10, ()), line_of(many + 1)):
                self.assertEqual(10, self.raises(TooMany, joined, most, other).most)
                self.assertEqual(10, self.raises(TooMany, joined, other, most).most)
        self.assertEqual(10, self.raises(TooMany, joined, FULL, ALONE).most)
        self.assertEqual(10, self.raises(TooMany, joined, FULL, FULL).most)

    def test_wrong_arguments(self):
        self.tells_leftmost(joined, WEBS, WEBS)
        for value, index in wrong_webs():
            self.assertEqual(index, self.raises(BadWeb, joined, value, (2, None)).index)
            self.assertEqual(index, self.raises(BadWeb, joined, FULL, value).index)
            self.assertEqual(index, self.raises(BadWeb, joined, ALONE, value).index)


class StretchedTest(Asking, unittest.TestCase):
    def check(self, web, state, a, b, moods):
        """Check the answer against the same made by hand, street by street."""
        streets = set(web[1]) - {(a, b), (b, a)}
        ahead = a
        for new in range(web[0], web[0] + len(moods)):
            streets.add((ahead, new))
            ahead = new
        streets.add((b, ahead))
        expected = ((web[0] + len(moods), tuple(sorted(streets))), state + moods)
        self.assertEqual(expected, stretched(web, state, a, b, moods), (web, state, a, b, moods))

    def test_examples_of_the_interface(self):
        self.assertEqual(
            ((4, ((0, 3), (1, 2), (1, 3))), (0, 1, 2, 2)),
            stretched(LINE, (0, 1, 2), 0, 1, (2,)),
        )

    def test_small_webs(self):
        for web in (*small_webs(4), *unlike_webs(5)):
            for a, b in web[1]:
                for length in range(1, 11 - web[0]):
                    moods = ((0, 1, 2, 2, 1, 0, 0, 2, 1) * 2)[length:2 * length]
                    state = (2, 1, 0, 0, 1)[:web[0]]
                    self.check(web, state, a, b, moods)
                    self.check(web, state, b, a, moods)

    def test_values(self):
        pair = (2, ((0, 1),))
        row = (10, ((0, 2), (1, 9), *((one, one + 1) for one in range(2, 9))))
        self.assertEqual(
            (row, (0, 1, 2, 1, 0, 2, 1, 0, 2, 1)),
            stretched(pair, (0, 1), 0, 1, (2, 1, 0, 2, 1, 0, 2, 1)),
        )
        back = (10, ((0, 9), (1, 2), *((one, one + 1) for one in range(2, 9))))
        self.assertEqual((back, (0,) * 10), stretched(pair, (0, 0), 1, 0, (0,) * 8))
        web, state = stretched(THREE, (0, 1, 2), 0, 2, (0, 1))
        self.assertEqual((5, ((0, 1), (0, 3), (1, 2), (2, 4), (3, 4))), web)
        self.assertEqual((0, 1, 2, 0, 1), state)

    def test_no_moods(self):
        for value in NO_MOODS:
            for web in (LINE, line_of(10)):
                self.raises(BadState, stretched, web, (0,) * web[0], 0, 1, value)

    def test_no_street(self):
        state = (0, 1, 2)
        for a, b in ((0, 2), (2, 0), (0, 0), (1, 1), (2, 2)):
            for moods in ((0,), (0,) * 9, (), None, [0]):
                self.raises(BadStreet, stretched, LINE, state, a, b, moods)
        self.raises(BadStreet, stretched, ALONE, (0,), 0, 0, (0,))

    def test_too_many_folk(self):
        for many in range(2, 11):
            web, state = line_of(many), (1,) * many
            for length in range(1, 10):
                if many + length > 10:
                    error = self.raises(TooMany, stretched, web, state, 1, 0, (0,) * length)
                    self.assertEqual(10, error.most)
                else:
                    self.assertEqual(many + length, stretched(web, state, 1, 0, (0,) * length)[0][0])
        ten = (line_of(10), (0,) * 10)
        self.raises(BadState, stretched, *ten, 0, 1, (0,) * 10)
        self.raises(BadState, stretched, ten[0], [0] * 10, 0, 1, (0,))
        self.raises(BadFolk, stretched, *ten, 0, 10, (0,))
        self.raises(BadStreet, stretched, *ten, 0, 2, (0,))
        self.raises(BadWeb, stretched, (11, ()), (0,) * 11, 0, 1, (0,))

    def test_wrong_arguments(self):
        self.tells_leftmost(
            stretched, WEBS, ((0, 1, 2), BadState, wrong_states(3)), (0, BadFolk, wrong_folk(3)),
            (1, BadFolk, wrong_folk(3)), ((1, 2), BadState, NO_MOODS),
        )
        for value, index in wrong_webs():
            error = self.raises(BadWeb, stretched, value, (0, 1, 2), 0, 0, ())
            self.assertEqual(index, error.index)


class ArgumentsTest(Asking, unittest.TestCase):
    def test_arguments_are_left_as_they_are(self):
        for web in (LINE, THREE, FOUR, [3, [[0, 1]]], (3, [[0, 1]])):
            for function in (with_street, without_street):
                for a, b in ((0, 1), (0, 2), ([0], 1), (0, [1])):
                    self.keeps(function, web, a, b)
            self.keeps(joined, web, web)
            self.keeps(joined, web, [1, []])
            for state in ((0, 1, 2), [0, 1, 2]):
                for moods in ((0, 1), [0, 1], (0, [1])):
                    self.keeps(stretched, web, state, 0, 1, moods)


if __name__ == "__main__":
    unittest.main()
