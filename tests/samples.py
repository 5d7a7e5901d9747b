"""Webs, states and wrong values that several tests use."""

import copy
import itertools

LINE = (3, ((0, 1), (1, 2)))
THREE = (3, ((0, 1), (0, 2), (1, 2)))
FOUR = (4, ((0, 1), (0, 3), (1, 2), (2, 3)))
ALONE = (1, ())
LOOSE = (10, ())
# A ring of three, a line of three, two folk, and one alone.
LOTS = (9, ((0, 4), (0, 8), (1, 5), (2, 3), (3, 7), (4, 8)))
FULL = (10, tuple(itertools.combinations(range(10), 2)))

NO_INTEGERS = (True, False, None, "", "0", "1", (), (0,), (0, 1), [], [0], {}, {0: 1})

# Values that are no pair of a number of folk and a tuple: BadWeb(None).
NO_PAIRS = (
    None, True, 0, 3, "", "ab", (), (3,), (3, (), ()), [3, ()], [3, ((0, 1),)],
    {3: ()}, {0: 3, 1: ()}, ((), 3),
    *[(many, ()) for many in (0, -1, 11, 10 ** 30, -(10 ** 30))],
    *[(many, ()) for many in NO_INTEGERS],
    (True, ((0, 0),)),
    *[(3, streets) for streets in (None, True, 0, "", "01", [], [(0, 1)], {}, {(0, 1): 1})],
)

# Items that are no pair of unlike ones of three folk, the lesser one first.
NO_STREETS = (
    None, True, 0, 1, "", "01", (), (0,), (0, 1, 2), [0, 1], [], {0: 1}, {0: 0, 1: 1},
    (0, 3), (1, 3), (-1, 0), (-1, 1), (-2, -1), (3, 4), (0, 10 ** 30),
    (False, 1), (0, True), (True, 2), (False, True), (None, 1), (0, None),
    ("0", "1"), (0, "1"), ("0", 1), ((0,), (1,)), (0, (1,)), ([0], 1), (0, {}),
    (0, 0), (1, 1), (2, 2), (1, 0), (2, 0), (2, 1),
)


def wrong_webs():
    """Pairs of a value that is no web and the index that its error has."""
    wrong = [(value, None) for value in NO_PAIRS]
    for item in NO_STREETS:
        wrong.append(((3, (item,)), 0))
        wrong.append(((3, ((0, 1), item)), 1))
        wrong.append(((3, ((0, 1), (0, 2), item, (1, 2))), 2))
        wrong.append(((3, ((0, 1), item, (0, 1), None)), 1))
    wrong.append(((3, ((0, 1), (0, 1))), 1))
    wrong.append(((3, ((0, 2), (0, 1))), 1))
    wrong.append(((3, ((1, 2), (0, 2))), 1))
    wrong.append(((3, ((0, 1), (0, 2), (0, 2), (1, 2))), 2))
    wrong.append(((3, ((0, 1), (1, 2), (0, 2))), 2))
    wrong.append(((3, ((0, 1), (0, 2), (1, 2), (0, 1), (0, 0))), 3))
    wrong.append(((3, ((0, 2), (0, 1), None)), 1))
    wrong.append(((2, ((0, 1), (0, 2))), 1))
    wrong.append(((1, ((0, 1),)), 0))
    wrong.append(((10, ((0, 9), (1, 10))), 1))
    return wrong


def wrong_folk(many):
    """Values that are none of so many folk."""
    return [-1, many, many + 1, 10 ** 30, -(10 ** 30), *NO_INTEGERS]


def wrong_states(many):
    """Values that are no states of so many folk."""
    right = (0,) * many
    wrong = [None, True, 0, "", "0" * many, list(right), {one: 0 for one in range(many)}]
    wrong += [right + (0,), right[1:], right * 2]
    for mood in (3, -1, 10 ** 30, *NO_INTEGERS):
        wrong += [(mood,) + right[1:], right[1:] + (mood,)]
    return wrong


def small_webs(most):
    """All webs of at most so many folk."""
    for many in range(1, most + 1):
        pairs = list(itertools.combinations(range(many), 2))
        for length in range(len(pairs) + 1):
            for streets in itertools.combinations(pairs, length):
                yield many, streets


def all_states(many):
    """All states of so many folk."""
    return itertools.product(range(3), repeat=many)


def line_of(many):
    """The web of so many folk in a row."""
    return many, tuple((one, one + 1) for one in range(many - 1))


def ring_of(many):
    """The web of so many folk in a ring."""
    streets = [(one, one + 1) for one in range(many - 1)] + [(0, many - 1)]
    return many, tuple(sorted(streets))


class Asking:
    """What a test case asks of the program, beside what unittest offers."""

    def raises(self, error, function, *arguments):
        """Check that a call raises just this error, and give it back."""
        with self.assertRaises(error) as caught:
            function(*arguments)
        self.assertIs(error, caught.exception.__class__)
        return caught.exception

    def keeps(self, function, *arguments):
        """Check that a call, whatever comes of it, leaves its arguments alone."""
        before = copy.deepcopy(arguments)
        try:
            function(*arguments)
        except ValueError:
            pass
        self.assertEqual(repr(before), repr(arguments))
