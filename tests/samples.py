"""Webs, states and wrong values that several tests use."""

import copy
import functools
import itertools
import random

LINE = (3, ((0, 1), (1, 2)))
THREE = (3, ((0, 1), (0, 2), (1, 2)))
FOUR = (4, ((0, 1), (0, 3), (1, 2), (2, 3)))
ALONE = (1, ())
LOOSE = (10, ())
# A ring of three, a line of three, two folk, and one alone.
LOTS = (9, ((0, 4), (0, 8), (1, 5), (2, 3), (3, 7), (4, 8)))
FULL = (10, tuple(itertools.combinations(range(10), 2)))

# Rings of 3 and of 5 that share 0, with a tail.
TAILED = (10, (
    (0, 1), (0, 2), (0, 3), (0, 6), (1, 2), (3, 4), (4, 5), (5, 6), (6, 7), (7, 8), (8, 9),
))
# Rings of 4 and of 7 that share 0.
SHARED = (10, (
    (0, 1), (0, 3), (0, 4), (0, 9), (1, 2), (2, 3), (4, 5), (5, 6), (6, 7), (7, 8), (8, 9),
))
# Rings of 4 and of 5 that share a street, and a ring of 3 behind a bridge.
BRIDGED = (10, (
    (0, 1), (0, 3), (1, 2), (1, 6), (2, 3), (2, 4), (4, 5), (5, 6), (6, 7), (7, 8), (7, 9),
    (8, 9),
))
# Rings of 3 and of 7; of 3 and of 4, and a line; two of 5: each a part of its own.
APART = (10, (
    (0, 1), (0, 2), (1, 2), (3, 4), (3, 9), (4, 5), (5, 6), (6, 7), (7, 8), (8, 9),
))
MIXED = (10, ((0, 3), (0, 9), (1, 4), (1, 7), (2, 5), (2, 6), (3, 9), (4, 8), (7, 8)))
HALVES = (10, ((0, 2), (0, 8), (1, 3), (1, 9), (2, 4), (3, 5), (4, 6), (5, 7), (6, 8), (7, 9)))

# Webs of ten folk with states in which rings of unlike speeds, or of one, are wound.
WOUND = (
    (TAILED, (0, 1, 2, 1, 2, 2, 2, 2, 1, 0)),
    (TAILED, (0, 1, 1, 1, 2, 2, 2, 0, 1, 2)),
    (TAILED, (0, 1, 2, 0, 0, 0, 0, 0, 2, 1)),
    (SHARED, (0, 1, 2, 2, 1, 2, 0, 1, 2, 0)),
    (SHARED, (0, 1, 2, 2, 0, 1, 1, 2, 2, 2)),
    (SHARED, (0, 0, 0, 0, 1, 1, 1, 2, 2, 2)),
    (BRIDGED, (0, 1, 2, 2, 0, 1, 1, 0, 1, 2)),
    (BRIDGED, (0, 0, 0, 0, 1, 1, 2, 2, 2, 2)),
    (APART, (0, 1, 2, 0, 1, 2, 0, 1, 2, 0)),
    (APART, (0, 1, 2, 0, 0, 0, 1, 1, 2, 2)),
    (APART, (0, 0, 1, 0, 0, 1, 1, 2, 2, 2)),
    (MIXED, (0, 0, 0, 1, 1, 1, 2, 2, 2, 2)),
    (MIXED, (0, 0, 1, 0, 0, 2, 0, 1, 1, 1)),
    (HALVES, (0, 0, 1, 0, 2, 1, 2, 1, 2, 0)),
    (HALVES, (0, 0, 1, 1, 2, 2, 2, 2, 2, 2)),
)

NO_INTEGERS = (True, False, None, "", "0", "1", (), (0,), (0, 1), [], [0], {}, {0: 1})

# Values that are no pair of a number of folk and a tuple: BadWeb(None).
NO_PAIRS = (
    None, True, 0, 3, "", "ab", (), (3,), (3, (), ()), [3, ()], [3, ((0, 1),)],
    {3: ()}, {0: 3, 1: ()}, ((), 3),
    *[(many, ()) for many in (0, -1, 11, 10 ** 30, -(10 ** 30))],
    *[(many, ()) for many in NO_INTEGERS],
    (True, ((0, 0),)),
    *[(3, streets) for streets in (None, True, 0, "", "01", [], [(0, 1)], {}, {(0, 1): 1})],
)

# Items that are no pair of unlike ones of three folk, the lesser one first.
NO_STREETS = (
    None, True, 0, 1, "", "01", (), (0,), (0, 1, 2), [0, 1], [], {0: 1}, {0: 0, 1: 1},
    (0, 3), (1, 3), (-1, 0), (-1, 1), (-2, -1), (3, 4), (0, 10 ** 30),
    (False, 1), (0, True), (True, 2), (False, True), (None, 1), (0, None),
    ("0", "1"), (0, "1"), ("0", 1), ((0,), (1,)), (0, (1,)), ([0], 1), (0, {}),
    (0, 0), (1, 1), (2, 2), (1, 0), (2, 0), (2, 1),
)


def wrong_webs():
    """Pairs of a value that is no web and the index that its error has."""
    wrong = [(value, None) for value in NO_PAIRS]
    for item in NO_STREETS:
        wrong.append(((3, (item,)), 0))
        wrong.append(((3, ((0, 1), item)), 1))
        wrong.append(((3, ((0, 1), (0, 2), item, (1, 2))), 2))
        wrong.append(((3, ((0, 1), item, (0, 1), None)), 1))
    wrong.append(((3, ((0, 1), (0, 1))), 1))
    wrong.append(((3, ((0, 2), (0, 1))), 1))
    wrong.append(((3, ((1, 2), (0, 2))), 1))
    wrong.append(((3, ((0, 1), (0, 2), (0, 2), (1, 2))), 2))
    wrong.append(((3, ((0, 1), (1, 2), (0, 2))), 2))
    wrong.append(((3, ((0, 1), (0, 2), (1, 2), (0, 1), (0, 0))), 3))
    wrong.append(((3, ((0, 2), (0, 1), None)), 1))
    wrong.append(((2, ((0, 1), (0, 2))), 1))
    wrong.append(((1, ((0, 1),)), 0))
    wrong.append(((10, ((0, 9), (1, 10))), 1))
    return wrong


def wrong_folk(many):
    """Values that are none of so many folk."""
    return [-1, many, many + 1, 10 ** 30, -(10 ** 30), *NO_INTEGERS]


def wrong_states(many):
    """Values that are no states of so many folk."""
    right = (0,) * many
    wrong = [None, True, 0, "", "0" * many, list(right), {one: 0 for one in range(many)}]
    wrong += [right + (0,), right[1:], right * 2]
    for mood in (3, -1, 10 ** 30, *NO_INTEGERS):
        wrong += [(mood,) + right[1:], right[1:] + (mood,)]
    return wrong


def small_webs(most):
    """All webs of at most so many folk."""
    for many in range(1, most + 1):
        pairs = list(itertools.combinations(range(many), 2))
        for length in range(len(pairs) + 1):
            for streets in itertools.combinations(pairs, length):
                yield many, streets


def renamed_streets(order, streets):
    """The streets of a web whose folk have other numbers, in ascending sequence."""
    return tuple(sorted(tuple(sorted((order[one], order[other]))) for one, other in streets))


@functools.cache
def unlike_webs(many):
    """Webs of so many folk, one for all that are alike but for their numbers."""
    found = {}
    orders = list(itertools.permutations(range(many)))
    for web in small_webs(many):
        if web[0] == many and web[1] not in found:
            for order in orders:
                found.setdefault(renamed_streets(order, web[1]), web)
    return sorted(set(found.values()))


def random_cases(many, seed=1):
    """So many webs of seven to ten folk, each with a state, always the same ones."""
    chance = random.Random(seed)
    for _ in range(many):
        folk = chance.randint(7, 10)
        share = chance.choice((0.15, 0.2, 0.25, 0.3, 0.5))
        pairs = itertools.combinations(range(folk), 2)
        web = (folk, tuple(pair for pair in pairs if chance.random() < share))
        yield web, tuple(chance.randrange(3) for _ in range(folk))


def all_states(many):
    """All states of so many folk."""
    return itertools.product(range(3), repeat=many)


def line_of(many):
    """The web of so many folk in a row."""
    return many, tuple((one, one + 1) for one in range(many - 1))


def ring_of(many):
    """The web of so many folk in a ring."""
    streets = [(one, one + 1) for one in range(many - 1)] + [(0, many - 1)]
    return many, tuple(sorted(streets))


def wrong_numbers(least, most):
    """Values that are no integer from least to most."""
    return [least - 1, most + 1, -(10 ** 31), 10 ** 31, *NO_INTEGERS]


class Asking:
    """What a test case asks of the program, beside what unittest offers."""

    def raises(self, error, function, *arguments):
        """Check that a call raises just this error, and give it back."""
        with self.assertRaises(error) as caught:
            function(*arguments)
        self.assertIs(error, caught.exception.__class__)
        return caught.exception

    def tells_leftmost(self, function, *rows):
        """Check which error comes first; a row has a right value, an error and wrong values.

        Each row is made wrong in each of its ways, with those to its right right, or
        some of them wrong.
        """
        rights = [row[0] for row in rows]
        for at, (_, error, wrongs) in enumerate(rows):
            later = [(right, values[0], values[-1]) for right, _, values in rows[at + 1:]]
            for wrong in wrongs:
                for behind in itertools.product(*later):
                    self.raises(error, function, *rights[:at], wrong, *behind)

    def judges(self, expected, function, *arguments):
        """Check that a call returns True, or False, and no other value like it."""
        self.assertIs(expected, function(*arguments), arguments)

    def keeps(self, function, *arguments):
        """Check that a call, whatever comes of it, leaves its arguments alone."""
        before = copy.deepcopy(arguments)
        try:
            function(*arguments)
        except ValueError:
            pass
        self.assertEqual(repr(before), repr(arguments))
