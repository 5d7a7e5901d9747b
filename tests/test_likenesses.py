import itertools
import math
import unittest

from tests.samples import (
    ALONE, APART, FOUR, FULL, LINE, LOOSE, LOTS, THREE, WOUND, Asking, all_states, line_of,
    renamed_streets, ring_of, small_webs, unlike_webs, wrong_states, wrong_webs,
)
from threemoods.errors import BadOrder, BadState, BadWeb, TooMany
from threemoods.others import likenesses, renamed

ODD = (0, 1, 2, 2, 1, 0, 0, 2, 1, 1)
WEBS = (LINE, BadWeb, [value for value, _ in wrong_webs()])
STATES = ((0, 1, 2), BadState, wrong_states(3))


def wrong_orders(many):
    """Values that are no tuple of all of so many folk."""
    right = tuple(range(many))
    wrong = [None, True, 0, "", "012"[:many], list(right), {one: one for one in right}]
    wrong += [right[1:], right + (0,), right + (many,), right * 2]
    for item in (-1, many, 10 ** 30, True, False, None, "0", (0,), [0], {}):
        wrong += [right[1:] + (item,), (item,) + right[1:]]
    wrong += [(0,) * many, right[:1] + right[:-1]] if many > 1 else []
    return [value for value in wrong if not is_order(value, many)]


def is_order(value, many):
    """Whether a value is an order, True and False being none of the folk."""
    return repr(value) in {repr(order) for order in itertools.permutations(range(many))}


def turned(state, turn):
    """A state with a number added to each mood."""
    return tuple((mood + turn) % 3 for mood in state)


def renamed_by_hand(web, state, order):
    """The web and the state in which k is the one who was order[k]."""
    places = {one: place for place, one in enumerate(order)}
    return (web[0], renamed_streets(places, web[1])), tuple(state[one] for one in order)


def likenesses_by_all(web, state):
    """The likenesses by all orders and turns."""
    return tuple(
        (order, turn) for order in itertools.permutations(range(web[0])) for turn in range(3)
        if renamed_by_hand(web, state, order) == (web, turned(state, turn))
    )


class RenamedTest(Asking, unittest.TestCase):
    def test_examples_of_the_interface(self):
        self.assertEqual(
            ((3, ((0, 1), (0, 2))), (1, 0, 2)), renamed(LINE, (0, 1, 2), (1, 0, 2)),
        )

    def test_all_orders_of_few_folk(self):
        for web in (*small_webs(4), *unlike_webs(5)):
            state = (0, 1, 2, 2, 0)[:web[0]]
            for order in itertools.permutations(range(web[0])):
                answer = renamed(web, state, order)
                self.assertEqual(renamed_by_hand(web, state, order), answer, (web, order))
                back = tuple(order.index(one) for one in range(web[0]))
                self.assertEqual((web, state), renamed(*answer, back))

    def test_neighbours_and_moods_go_with_the_folk(self):
        order = (3, 1, 4, 0, 5, 9, 2, 6, 8, 7)
        for web, state in (*WOUND, (LOOSE, ODD), (FULL, ODD), (line_of(10), ODD)):
            (many, streets), moods = renamed(web, state, order)
            self.assertEqual(10, many)
            self.assertEqual(tuple(sorted(set(streets))), streets)
            for one, other in itertools.combinations(range(10), 2):
                was = tuple(sorted((order[one], order[other])))
                self.assertEqual(was in web[1], (one, other) in streets)
            self.assertEqual([state[one] for one in order], list(moods))

    def test_the_same_order_changes_nothing(self):
        for web, state in (*WOUND, (ALONE, (2,)), (LOTS, ODD[:9])):
            self.assertEqual((web, state), renamed(web, state, tuple(range(web[0]))))

    def test_no_orders(self):
        for web in (ALONE, LINE, THREE, (2, ((0, 1),)), FOUR):
            for value in wrong_orders(web[0]):
                self.raises(BadOrder, renamed, web, (0,) * web[0], value)
        for value in ((0,) * 10, tuple(range(9)), tuple(range(11)), tuple(range(1, 11))):
            self.raises(BadOrder, renamed, LOOSE, (0,) * 10, value)
        for value in ((0, 1), (0, 0, 1), (0, 1, 1), [0, 1, 2], (0, True, 2), (False, 1, 2), (1, 2, 3)):
            self.raises(BadOrder, renamed, LINE, (0, 1, 2), value)

    def test_wrong_arguments(self):
        self.tells_leftmost(renamed, WEBS, STATES, ((2, 1, 0), BadOrder, wrong_orders(3)))
        for value, index in wrong_webs():
            self.assertEqual(index, self.raises(BadWeb, renamed, value, (0, 1, 2), None).index)


class LikenessesTest(Asking, unittest.TestCase):
    def check(self, web, state):
        answer = likenesses(web, state)
        self.assertIsInstance(answer, tuple)
        self.assertEqual(likenesses_by_all(web, state), answer, (web, state))

    def test_examples_of_the_interface(self):
        self.assertEqual((((0, 1, 2), 0), ((2, 1, 0), 0)), likenesses(LINE, (0, 1, 0)))

    def test_small_webs(self):
        for web in (*small_webs(3), *unlike_webs(4)):
            for state in all_states(web[0]):
                self.check(web, state)
        for web in unlike_webs(5):
            for state in itertools.islice(all_states(5), 0, None, 11):
                self.check(web, state)

    def test_each_is_one(self):
        for web, state in (
            (ring_of(6), (0, 1, 2) * 2), (ring_of(7), (0,) * 7), ((7, ()), (0, 1, 2, 0, 1, 2, 0)),
            ((6, THREE[1] + ((3, 4), (3, 5), (4, 5))), (0, 1, 2, 0, 2, 1)),
        ):
            found = likenesses(web, state)
            self.assertEqual(tuple(sorted(set(found))), found)
            for order, turn in found:
                self.assertEqual((web, turned(state, turn)), renamed(web, state, order))

    def test_many_and_one(self):
        full = (7, tuple(itertools.combinations(range(7), 2)))
        for web in ((7, ()), full):
            self.assertEqual(math.factorial(7), len(likenesses(web, (1,) * 7)))
            self.assertEqual(6 * 24, len(likenesses(web, (0, 0, 0, 1, 1, 1, 1))))
        self.assertEqual(14, len(likenesses(ring_of(7), (2,) * 7)))
        self.check(ring_of(6), (0, 1, 2) * 2)
        self.assertEqual(6, len(likenesses(ring_of(6), (0, 1, 2) * 2)))
        alone = (((0, 1, 2, 3, 4, 5, 6), 0),)
        self.assertEqual(alone, likenesses(line_of(7), (0, 0, 0, 0, 0, 0, 1)))
        # Spurs of unlike lengths leave nobody alike.
        spurs = (7, ((0, 1), (0, 2), (0, 4), (2, 3), (4, 5), (5, 6)))
        self.assertEqual(alone, likenesses(spurs, (0,) * 7))

    def test_turns(self):
        self.assertEqual(
            (((0, 1, 2), 0), ((1, 2, 0), 1), ((2, 0, 1), 2)), likenesses(THREE, (0, 1, 2)),
        )
        self.assertEqual((((0,), 0),), likenesses(ALONE, (2,)))
        self.assertEqual((((0, 1), 0),), likenesses((2, ()), (0, 1)))

    def test_too_many_folk(self):
        self.check((7, ((0, 1), (2, 3), (4, 5))), (0, 1, 2, 2, 1, 0, 0))
        for web in ((8, ()), line_of(8), LOTS, APART, FULL):
            self.assertEqual(7, self.raises(TooMany, likenesses, web, (0,) * web[0]).most)
            self.raises(BadState, likenesses, web, (0,) * 7)
            self.raises(BadState, likenesses, web, [0] * web[0])
        self.assertEqual(0, self.raises(BadWeb, likenesses, (8, ((0, 0),)), None).index)

    def test_wrong_arguments(self):
        self.tells_leftmost(likenesses, WEBS, STATES)
        for value, index in wrong_webs():
            self.assertEqual(index, self.raises(BadWeb, likenesses, value, (0, 1, 2)).index)


class ArgumentsTest(Asking, unittest.TestCase):
    def test_arguments_are_left_as_they_are(self):
        for web in (LINE, THREE, FOUR, [3, [[0, 1]]]):
            for state in ((0, 1, 2), [0, 1, 2], (0, [1], 2)):
                self.keeps(likenesses, web, state)
                for order in ((0, 1, 2), (2, 0, 1), [0, 1, 2], (0, [1], 2)):
                    self.keeps(renamed, web, state, order)


if __name__ == "__main__":
    unittest.main()
