"""Every function of the interface with values of every kind at each argument."""

import importlib
import itertools
import unittest

from tests.samples import Asking
from tests.test_package import INTERFACE
from threemoods import errors
from threemoods.desk import Desk

LINE = (3, ((0, 1), (1, 2)))
STATE = (0, 1, 2)
FAR = 10 ** 30
ANY_VALUES = (
    -FAR, -1, 0, 1, 2, 3, 7, 10, 11, 60, 61, 100, 101, 300, 301, 500, 501, FAR, FAR + 1,
    "", "0", "1", "012", "3", "x", "folk", "folk 3", "0-1", "tick", " ", "\u0661", "0" * 61,
    True, False, None,
    (), (0,), (1,), (0, 1), (0, 1, 2), (2, 1, 0), (0, 2), (1, 1, 1), (0, 1, 2, 0), (0, True, 2),
    (0, 1, 3), (0, -1, 1), (False, 1, 2), ("0", "1", "2"), (None,) * 3, ((0, 1),), ((0,), (1,), (2,)),
    ([0], [1], [2]), ({}, {}, {}), (3, ()), (3, ((0, 1),)), (3, ((1, 0),)), (3, [(0, 1)]), (3, ((0, 3),)),
    (3, ([0, 1],)), (3, ((0, 1), (0, 1))), (11, ()), (0, ()), (True, ()), ("3", ()), (None, None),
    (3, {0: 1}), (3, ((0, True),)), (0,) * 9, (0,) * 10, (0,) * 201, (FAR,) * 3, ((0, 1),) * 3,
    ((0, 1), (0, 1)), ("rests", (0, 0, 0)), ("winds", (0, 1, 2)), ((None,), ((0, 1),) * 3),
    ((), ()), (None, None, None), ((0, 0),) * 3, ((0, -1),) * 3, ((1, 2), (1, 2), (1, 2)),
    [], [0], [0, 1, 2], [3, ()], [(0, 1)], [[0], [1]], [None], ["012"], [True, False],
    {}, {0: 1}, {0: 0, 1: 1, 2: 2}, {"folk": 3}, {(0, 1): [2]}, {0: {}, 1: []},
)


class Kind:
    """A kind of argument: a right value, the error of wrong ones, and which ones are right."""

    def __init__(self, right, error, *allowed):
        self.right = right
        self.error = error
        shown = {repr(value) for value in allowed}
        self.wrongs = [value for value in ANY_VALUES if repr(value) not in shown]


def number(right, least, most):
    """The kind of integers from least to most."""
    integers = [value for value in ANY_VALUES if value.__class__ is int]
    return Kind(right, errors.BadNumber, *[value for value in integers if least <= value <= most])


# What is right for each kind, of these values and beside three folk in a line.
WEB = Kind(LINE, errors.BadWeb, (3, ()), (3, ((0, 1),)))
LOOSE = Kind((3, ()), errors.BadWeb, (3, ()), (3, ((0, 1),)))
MOODS_OF_THREE = ((0, 1, 2), (2, 1, 0), (1, 1, 1))
A_STATE = Kind(STATE, errors.BadState, *MOODS_OF_THREE)
FOLK = Kind(1, errors.BadFolk, 0, 1, 2)
OTHER = Kind(2, errors.BadFolk, 0, 1, 2)
WALK = Kind(
    (0, 1), errors.BadWalk, (0,), (1,), (0, 1), *MOODS_OF_THREE, (0,) * 9, (0,) * 10,
)
ORDER = Kind((2, 0, 1), errors.BadOrder, (0, 1, 2), (2, 1, 0))
TEXT = Kind("012", errors.NotText, *[value for value in ANY_VALUES if value.__class__ is str])
TOLD = Kind("01", errors.NotText, "0", "1", "012")
MOODS = Kind(
    (0, 1), errors.BadState, (0,), (1,), (0, 1), (0, 2), *MOODS_OF_THREE, (0, 1, 2, 0), (0,) * 9,
)
CHANGED = number(2, 0, FAR)
STEPS = number(2, 0, 60)
# The last argument of these functions may be any value.
ANY = None

CALLS = {
    "webs": {"parts": [WEB], "far": [WEB, FOLK, FOLK]},
    "moods": {
        "stirred": [WEB, A_STATE], "tick": [WEB, A_STATE],
        "run": [WEB, A_STATE, number(2, 0, 500)], "walk_sum": [WEB, A_STATE, WALK],
    },
    "walks": {
        "changes": [WEB, A_STATE, CHANGED], "state_at": [WEB, A_STATE, CHANGED],
        "best_walk": [WEB, A_STATE, FOLK, STEPS],
        "shows_best_walk": [WEB, A_STATE, FOLK, STEPS, ANY],
    },
    "rests": {
        "heights": [WEB, A_STATE], "winding": [WEB, A_STATE], "rests": [WEB, A_STATE],
        "rest_paper": [WEB, A_STATE], "judged_rest": [WEB, A_STATE, ANY],
        "rest_tick": [WEB, A_STATE], "end": [WEB, A_STATE], "deciders": [WEB, A_STATE],
        "sway": [WEB, A_STATE, FOLK],
    },
    "speeds": {
        "speed": [WEB, A_STATE], "busy_ring": [WEB, A_STATE, FOLK], "speed_paper": [WEB, A_STATE],
        "judged_speed": [WEB, A_STATE, ANY, ANY],
    },
    "whens": {
        "when_changed": [WEB, A_STATE, FOLK, CHANGED],
        "when_mood": [WEB, A_STATE, FOLK, number(1, 0, 2)],
        "story": [WEB, A_STATE, FOLK, number(3, 0, 300)],
    },
    "rounds": {
        "coming_round": [WEB, A_STATE], "meet": [WEB, A_STATE, A_STATE],
        "becomes": [WEB, A_STATE, A_STATE],
    },
    "aheads": {
        "ahead": [WEB, A_STATE], "eldest": [WEB, A_STATE],
        "kin": [WEB, A_STATE, number(1, 0, 100)],
    },
    "alls": {
        "calm_for_all": [WEB], "longest_rest": [WEB], "fastest": [WEB], "fastest_state": [WEB],
        "shows_fastest_state": [WEB, ANY], "count_resting": [WEB], "count_by_rest": [WEB],
        "all_speeds": [WEB],
    },
    "repaints": {"calmed": [WEB, A_STATE], "stirring": [WEB, A_STATE]},
    "others": {
        "with_street": [LOOSE, FOLK, OTHER], "without_street": [WEB, FOLK, OTHER],
        "joined": [WEB, WEB], "stretched": [WEB, A_STATE, FOLK, OTHER, MOODS],
        "renamed": [WEB, A_STATE, ORDER], "likenesses": [WEB, A_STATE],
    },
    "seens": {"fits": [WEB, FOLK, TOLD], "sure": [WEB, FOLK, TOLD]},
    "notation": {
        "write_web": [WEB], "write_state": [WEB, A_STATE], "read_web": [TEXT],
        "read_state": [WEB, TEXT],
    },
    "desk": {"Desk": [WEB, A_STATE]},
}


def calls():
    """Pairs of a function, or class, of the interface and the kinds of its arguments."""
    for module, rows in CALLS.items():
        for name, kinds in rows.items():
            yield getattr(importlib.import_module(f"threemoods.{module}"), name), kinds


class AnyValuesTest(Asking, unittest.TestCase):
    def test_all_functions_of_the_interface_are_here(self):
        told = {module: tuple(rows) for module, rows in CALLS.items()}
        named = {module: names for module, names in INTERFACE.items() if module != "errors"}
        self.assertEqual(named, told)

    def test_right_values_raise_nothing(self):
        for function, kinds in calls():
            if function.__name__ != "read_web":
                function(*[None if kind is ANY else kind.right for kind in kinds])

    def test_one_wrong_value(self):
        for function, kinds in calls():
            rights = [None if kind is ANY else kind.right for kind in kinds]
            for at, kind in enumerate(kinds):
                for wrong in [] if kind is ANY else kind.wrongs:
                    self.raises(kind.error, function, *rights[:at], wrong, *rights[at + 1:])

    def test_several_wrong_values(self):
        for function, kinds in calls():
            rights = [None if kind is ANY else kind.right for kind in kinds]
            for at, kind in enumerate(kinds):
                for place, wrong in enumerate([] if kind is ANY else kind.wrongs):
                    behind = [self.some_wrong(other, place) for other in kinds[at + 1:]]
                    self.raises(kind.error, function, *rights[:at], wrong, *behind)

    def some_wrong(self, kind, place):
        """A value that is wrong for a kind, another one for each place."""
        wrongs = ANY_VALUES if kind is ANY else kind.wrongs
        return wrongs[place * 7 % len(wrongs)]

    def test_two_wrong_values(self):
        for function, kinds in calls():
            asked = [at for at, kind in enumerate(kinds) if kind is not ANY]
            for first, second in itertools.combinations(asked, 2):
                values = [None if kind is ANY else kind.right for kind in kinds]
                for place in range(0, 60, 5):
                    values[first] = self.some_wrong(kinds[first], place)
                    values[second] = self.some_wrong(kinds[second], place + 1)
                    self.raises(kinds[first].error, function, *values)

    def test_those_that_judge_take_any_value(self):
        for function, kinds in calls():
            if ANY in kinds:
                rights = [kind.right for kind in kinds if kind is not ANY]
                free = len(kinds) - len(rights)
                for values in itertools.product(ANY_VALUES, repeat=free):
                    self.assertIs(bool, function(*rights, *values).__class__)

    def test_those_that_judge_tell_other_errors(self):
        for function, kinds in calls():
            if ANY in kinds:
                rights = [kind.right for kind in kinds if kind is not ANY]
                free = len(kinds) - len(rights)
                for at, kind in enumerate(kinds[:-free]):
                    for place, wrong in enumerate(kind.wrongs):
                        odd = [ANY_VALUES[(place + k) % len(ANY_VALUES)] for k in range(free)]
                        self.raises(kind.error, function, *rights[:at], wrong, *rights[at + 1:], *odd)

    def test_lines_of_a_desk(self):
        desk = Desk(LINE, STATE)
        for value in ANY_VALUES:
            if value.__class__ is not str:
                self.raises(errors.NotText, desk.run, value)
            elif value != "tick":
                self.assertEqual(0, self.raises(errors.InvalidText, desk.run, value).word)
        self.assertEqual((STATE, 0), (desk.state, desk.ticks))

    def test_no_argument_is_modified(self):
        for function, kinds in calls():
            for place in range(len(ANY_VALUES)):
                odd = [ANY_VALUES[(place * (at + 1) + at) % len(ANY_VALUES)] for at in range(len(kinds))]
                self.keeps(function, *odd)
                self.keeps(function, *[
                    value if kind is ANY else kind.right for kind, value in zip(kinds, odd)
                ])


class OtherErrorsTest(Asking, unittest.TestCase):
    def test_errors_are_told_apart_by_index_word_and_most(self):
        for function, kinds in calls():
            behind = [None] * (len(kinds) - 1)
            if kinds[0] is not TEXT:
                self.assertIsNone(self.raises(errors.BadWeb, function, None, *behind).index)
                twice = (3, ((0, 1), (0, 2), (0, 2)))
                self.assertEqual(2, self.raises(errors.BadWeb, function, twice, *behind).index)


if __name__ == "__main__":
    unittest.main()
