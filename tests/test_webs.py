import itertools
import unittest

from tests.samples import (
    ALONE, FOUR, FULL, LINE, LOOSE, LOTS, THREE, Asking, line_of, ring_of, small_webs, wrong_folk,
    wrong_webs,
)
from threemoods.errors import BadFolk, BadWeb
from threemoods.webs import far, parts


def table_of_ways(web):
    """The least numbers of streets between all folk, by trying all between ways."""
    many, streets = web
    table = {(one, one): 0 for one in range(many)}
    for one, other in streets:
        table[one, other] = table[other, one] = 1
    for by, one, other in itertools.product(range(many), repeat=3):
        if (one, by) in table and (by, other) in table:
            way = table[one, by] + table[by, other]
            table[one, other] = min(way, table.get((one, other), way))
    return table


class PartsTest(Asking, unittest.TestCase):
    def test_examples_of_the_interface(self):
        self.assertEqual(((0, 1), (2, 3)), parts((4, ((0, 1), (2, 3)))))
        self.assertEqual(0, self.raises(BadWeb, parts, (2, ((0, 0),))).index)

    def test_one_of_the_folk_and_ten(self):
        self.assertEqual(((0,),), parts(ALONE))
        self.assertEqual(tuple((one,) for one in range(10)), parts(LOOSE))
        self.assertEqual((tuple(range(10)),), parts(FULL))
        self.assertEqual((tuple(range(10)),), parts(line_of(10)))

    def test_rings(self):
        self.assertEqual(((0, 1, 2),), parts(THREE))
        self.assertEqual(((0, 1, 2, 3),), parts(FOUR))
        self.assertEqual((tuple(range(10)),), parts(ring_of(10)))

    def test_several_parts_are_ascending(self):
        self.assertEqual(((0, 4, 8), (1, 5), (2, 3, 7), (6,)), parts(LOTS))
        self.assertEqual(((0, 3), (1, 2)), parts((4, ((0, 3), (1, 2)))))
        self.assertEqual(((0,), (1, 2)), parts((3, ((1, 2),))))

    def test_a_part_that_only_later_streets_join(self):
        self.assertEqual(((0, 1, 2, 3, 4),), parts((5, ((0, 4), (1, 3), (2, 3), (2, 4)))))

    def test_all_small_webs(self):
        for web in small_webs(4):
            ways = table_of_ways(web)
            lots = {
                tuple(other for other in range(web[0]) if (one, other) in ways)
                for one in range(web[0])
            }
            self.assertEqual(tuple(sorted(lots)), parts(web), web)

    def test_tuples_throughout(self):
        self.assertIsInstance(parts(LOTS), tuple)
        for lot in parts(LOTS):
            self.assertIsInstance(lot, tuple)


class FarTest(Asking, unittest.TestCase):
    def test_examples_of_the_interface(self):
        self.assertEqual(2, far(LINE, 0, 2))
        self.assertIsNone(far((2, ()), 0, 1))

    def test_to_oneself(self):
        for web in (ALONE, LOOSE, LINE, FULL, LOTS):
            for one in range(web[0]):
                self.assertEqual(0, far(web, one, one))

    def test_along_streets(self):
        for one, other in itertools.product(range(10), repeat=2):
            self.assertEqual(abs(one - other), far(line_of(10), one, other))
            around = min((one - other) % 10, (other - one) % 10)
            self.assertEqual(around, far(ring_of(10), one, other))
            self.assertEqual(int(one != other), far(FULL, one, other))

    def test_to_another_part(self):
        self.assertIsNone(far(LOTS, 0, 1))
        self.assertIsNone(far(LOTS, 7, 6))
        self.assertEqual(2, far(LOTS, 2, 7))
        self.assertEqual(1, far(LOTS, 8, 4))

    def test_all_small_webs(self):
        for web in small_webs(4):
            ways = table_of_ways(web)
            for one, other in itertools.product(range(web[0]), repeat=2):
                self.assertEqual(ways.get((one, other)), far(web, one, other), web)


class WrongWebsTest(Asking, unittest.TestCase):
    def test_no_webs(self):
        for value, index in wrong_webs():
            with self.subTest(value=value):
                self.assertEqual(index, self.raises(BadWeb, parts, value).index)
                self.assertEqual(index, self.raises(BadWeb, far, value, 0, 0).index)

    def test_index_is_an_integer_or_none(self):
        for value, _ in wrong_webs():
            self.assertIn(self.raises(BadWeb, parts, value).index.__class__, (int, None.__class__))

    def test_no_folk(self):
        for web in (ALONE, LINE, LOOSE):
            for value in wrong_folk(web[0]):
                with self.subTest(web=web, value=value):
                    self.raises(BadFolk, far, web, value, 0)
                    self.raises(BadFolk, far, web, 0, value)
                    self.raises(BadFolk, far, web, value, value)

    def test_a_wrong_web_comes_first(self):
        for value in wrong_folk(3):
            self.raises(BadWeb, far, (0, ()), value, 0)
            self.raises(BadWeb, far, (3, ((0, 0),)), 0, value)
            self.raises(BadWeb, far, None, value, value)


class ArgumentsTest(Asking, unittest.TestCase):
    def test_arguments_are_left_as_they_are(self):
        for web in (LINE, LOTS, [3, [[0, 1]]], (3, [[1, 0]]), (3, ([1, 0],)), {3: []}):
            self.keeps(parts, web)
            self.keeps(far, web, 0, 2)
            self.keeps(far, web, [0], {2: [2]})

    def test_equal_arguments_have_equal_answers(self):
        self.assertEqual(parts(LOTS), parts(LOTS))
        self.assertEqual(far(LOTS, 2, 7), far(LOTS, 2, 7))


if __name__ == "__main__":
    unittest.main()
