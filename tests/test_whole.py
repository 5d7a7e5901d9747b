"""What holds between the answers of all modules: of parts, of renamed folk, of turned moods."""

import itertools
import math
import random
import unittest

from tests.samples import FOUR, LINE, THREE, WOUND, all_states, line_of, random_cases, ring_of
from threemoods.aheads import ahead, eldest, kin
from threemoods.alls import (
    all_speeds, calm_for_all, count_by_rest, count_resting, fastest, fastest_state, longest_rest,
    shows_fastest_state,
)
from threemoods.desk import Desk
from threemoods.errors import NotResting
from threemoods.moods import run, stirred, tick
from threemoods.notation import read_state, read_web, write_state, write_web
from threemoods.others import joined, likenesses, renamed, stretched, with_street, without_street
from threemoods.repaints import calmed, stirring
from threemoods.rests import (
    deciders, end, heights, judged_rest, rest_paper, rest_tick, rests, sway,
)
from threemoods.rounds import becomes, coming_round, meet
from threemoods.seens import fits, sure
from threemoods.speeds import busy_ring, judged_speed, speed, speed_paper
from threemoods.walks import changes, state_at
from threemoods.webs import far, parts
from threemoods.whens import story, when_changed, when_mood

MOST = 10 ** 30
SQUARE = (5, ((0, 1), (0, 3), (1, 2), (2, 3), (3, 4)))
# Pairs of a web and a state that are joined two by two.
SINGLE = (
    (LINE, (0, 1, 2)), (LINE, (2, 2, 2)), (THREE, (0, 1, 2)), (THREE, (0, 0, 1)),
    (FOUR, (0, 1, 2, 2)), (FOUR, (0, 1, 1, 2)), ((1, ()), (1,)), (SQUARE, (0, 1, 2, 0, 2)),
    (SQUARE, (1, 1, 2, 2, 0)), (ring_of(5), (0, 1, 2, 2, 2)), (line_of(5), (2, 0, 1, 2, 1)),
    ((2, ()), (0, 1)),
)


def or_none(function, *arguments):
    """What a function returns, None if the state never comes to rest."""
    try:
        return function(*arguments)
    except NotResting:
        return None


def size(pace):
    """A number that is the greater the greater a fraction is."""
    return pace[0] * 2520 // pace[1]


def greatest(*paces):
    """The greatest of some fractions."""
    return max(paces, key=size)


def raised(folk, many):
    """Folk whose numbers are greater by so many."""
    return tuple(one + many for one in folk)


def turned(state, turn):
    """A state with a number added to each mood."""
    return tuple((mood + turn) % 3 for mood in state)


def later(one, other):
    """The later of two ticks, None if one of them never comes."""
    return None if one is None or other is None else max(one, other)


class JoinedTest(unittest.TestCase):
    """What is told of a joined web against what is told of the two."""

    def pairs(self):
        for (web, state), (other, beside) in itertools.product(SINGLE, repeat=2):
            yield web, state, other, beside, joined(web, other), state + beside

    def test_ticks(self):
        for web, state, other, beside, both, joint in self.pairs():
            self.assertEqual(tick(web, state) + tick(other, beside), tick(both, joint))
            for many in (0, 1, 7, 100, MOST):
                self.assertEqual(
                    changes(web, state, many) + changes(other, beside, many),
                    changes(both, joint, many),
                )
                self.assertEqual(
                    state_at(web, state, many) + state_at(other, beside, many),
                    state_at(both, joint, many),
                )
            self.assertEqual(
                stirred(web, state) + raised(stirred(other, beside), web[0]), stirred(both, joint),
            )

    def test_parts(self):
        for web, _, other, _, both, _ in self.pairs():
            behind = tuple(raised(lot, web[0]) for lot in parts(other))
            self.assertEqual(parts(web) + behind, parts(both))
            self.assertIsNone(far(both, 0, web[0]))

    def test_rests(self):
        for web, state, other, beside, both, joint in self.pairs():
            self.assertEqual(rests(web, state) and rests(other, beside), rests(both, joint))
            ticks = (or_none(rest_tick, web, state), or_none(rest_tick, other, beside))
            self.assertEqual(later(*ticks), or_none(rest_tick, both, joint))
            if rests(both, joint):
                self.assertEqual(end(web, state) + end(other, beside), end(both, joint))
                self.assertEqual(heights(web, state) + heights(other, beside), heights(both, joint))
                behind = raised(deciders(other, beside), web[0])
                self.assertEqual(deciders(web, state) + behind, deciders(both, joint))

    def test_speeds(self):
        for web, state, other, beside, both, joint in self.pairs():
            self.assertEqual(speed(web, state) + speed(other, beside), speed(both, joint))
            rings, roof = speed_paper(web, state)
            more, beyond = speed_paper(other, beside)
            moved = tuple(ring and raised(ring, web[0]) for ring in more)
            self.assertTrue(
                judged_speed(both, joint, speed(both, joint), (rings + moved, roof + beyond)),
            )

    def test_counts(self):
        for web, _, other, _, both, _ in self.pairs():
            self.assertEqual(count_resting(web) * count_resting(other), count_resting(both))
            self.assertEqual(calm_for_all(web) and calm_for_all(other), calm_for_all(both))
            self.assertEqual(max(longest_rest(web), longest_rest(other)), longest_rest(both))
            self.assertEqual(greatest(fastest(web), fastest(other)), fastest(both))
            ones, others, counts = map(count_by_rest, (web, other, both))
            for many in range(len(counts)):
                by_then = sum(ones[:many + 1]) * sum(others[:many + 1])
                self.assertEqual(by_then, sum(counts[:many + 1]))
            if both[0] <= 7:
                found = {*all_speeds(web), *all_speeds(other)}
                self.assertEqual(tuple(sorted(found, key=size)), all_speeds(both))

    def test_fastest_states(self):
        for web, _, other, _, both, _ in self.pairs():
            first, second = fastest_state(web), fastest_state(other)
            self.assertTrue(shows_fastest_state(both, first + second))
            if size(fastest(web)) >= size(fastest(other)):
                self.assertTrue(shows_fastest_state(both, first + (0,) * other[0]))

    def test_rounds(self):
        for web, state, other, beside, both, joint in self.pairs():
            (first, period), (last, lap) = coming_round(web, state), coming_round(other, beside)
            self.assertEqual((max(first, last), math.lcm(period, lap)), coming_round(both, joint))
            near, far_off = tick(web, state), turned(beside, 1)
            self.assertEqual(
                later(meet(web, state, near), meet(other, beside, far_off)),
                meet(both, joint, near + far_off),
            )
            for many in (0, 1, 5, 30):
                now = state_at(both, joint, many)
                self.assertEqual(joint == now or many > 0, becomes(both, joint, now) is not None)
                self.assertLessEqual(becomes(both, joint, now), many)

    def test_aheads(self):
        for web, state, other, beside, both, joint in self.pairs():
            found = [one + two for one in ahead(web, state) for two in ahead(other, beside)]
            self.assertEqual(tuple(found), ahead(both, joint))
            ages = [age for age in (eldest(web, state), eldest(other, beside)) if age != "endless"]
            self.assertEqual(min(ages, default="endless"), eldest(both, joint))
            for many in (0, 1, 2, 9):
                self.assertEqual(
                    kin(web, state, many) * kin(other, beside, many), kin(both, joint, many),
                )

    def test_repaints(self):
        for web, state, other, beside, both, joint in self.pairs():
            found = [
                one + raised(two, web[0])
                for one in calmed(web, state) for two in calmed(other, beside)
            ]
            self.assertEqual(tuple(sorted(found)), calmed(both, joint))
            lots = list(stirring(web, state))
            lots += [raised(lot, web[0]) for lot in stirring(other, beside)]
            few = min(map(len, lots), default=0)
            expected = sorted({lot for lot in lots if len(lot) == few})
            self.assertEqual(tuple(expected), stirring(both, joint))

    def test_stories(self):
        for web, state, other, beside, both, joint in self.pairs():
            for one in range(web[0]):
                self.assertEqual(story(web, state, one, 30), story(both, joint, one, 30))
                self.assertEqual(
                    when_changed(web, state, one, 5), when_changed(both, joint, one, 5),
                )
            for one in range(other[0]):
                self.assertEqual(
                    story(other, beside, one, 30), story(both, joint, web[0] + one, 30),
                )
            if both[0] <= 6:
                told = story(web, state, 0, 3)
                found = [one + two for one in fits(web, 0, told) for two in all_states(other[0])]
                self.assertEqual(tuple(found), fits(both, 0, told))
                self.assertEqual(sure(web, 0, told) + (None,) * other[0], sure(both, 0, told))

    def test_streets_between_parts(self):
        for web, _, other, _, both, _ in self.pairs():
            bridged = with_street(both, both[0] - 1, 0)
            self.assertEqual(both, without_street(bridged, 0, both[0] - 1))
            self.assertEqual(len(parts(both)) - 1, len(parts(bridged)))
            self.assertEqual(calm_for_all(both), calm_for_all(bridged))
            self.assertEqual(fastest(both), fastest(bridged))


class RenamedTest(unittest.TestCase):
    """What is told of a web and a state against what is told of them renamed and turned."""

    def cases(self):
        chance = random.Random(81)
        for web, state in (*SINGLE, *WOUND[::4], *random_cases(12, seed=82)):
            order = list(range(web[0]))
            chance.shuffle(order)
            yield web, state, tuple(order), chance.randrange(3)

    def new(self, state, order, turn):
        """A state renamed and turned."""
        return turned(tuple(state[one] for one in order), turn)

    def test_states(self):
        for web, state, order, turn in self.cases():
            other, beside = renamed(web, turned(state, turn), order)
            self.assertEqual(self.new(state, order, turn), beside)
            for many in (0, 1, 2, 9, 10 ** 9):
                now = state_at(web, state, many)
                self.assertEqual(self.new(now, order, turn), state_at(other, beside, many))
            told = changes(web, state, 1000)
            self.assertEqual(tuple(told[one] for one in order), changes(other, beside, 1000))
            told = speed(web, state)
            self.assertEqual(tuple(told[one] for one in order), speed(other, beside))

    def test_rests(self):
        for web, state, order, turn in self.cases():
            other, beside = renamed(web, turned(state, turn), order)
            self.assertEqual(or_none(rest_tick, web, state), or_none(rest_tick, other, beside))
            if rests(web, state):
                told = heights(web, state)
                self.assertEqual(tuple(told[one] for one in order), heights(other, beside))
                self.assertEqual(self.new(end(web, state), order, turn), end(other, beside))
            ends = sway(other, beside, 0)
            for mood, then in enumerate(sway(web, state, order[0])):
                expected = None if then is None else self.new(then, order, turn)
                self.assertEqual(expected, ends[(mood + turn) % 3])

    def test_counts(self):
        for web, state, order, _ in self.cases():
            other = renamed(web, state, order)[0]
            for function in (calm_for_all, longest_rest, fastest, count_resting, count_by_rest):
                self.assertEqual(function(web), function(other))
            if web[0] <= 5:
                self.assertEqual(all_speeds(web), all_speeds(other))

    def test_rounds_and_aheads(self):
        for web, state, order, turn in self.cases():
            other, beside = renamed(web, turned(state, turn), order)
            self.assertEqual(coming_round(web, state), coming_round(other, beside))
            apart = turned(state[:1], 1) + state[1:]
            self.assertEqual(
                meet(web, state, apart), meet(other, beside, self.new(apart, order, turn)),
            )
            for many in (0, 3):
                now = state_at(web, state, many)
                new = self.new(now, order, turn)
                self.assertEqual(becomes(web, state, now), becomes(other, beside, new))
                self.assertEqual(eldest(web, now), eldest(other, new))
                self.assertEqual(kin(web, now, 4), kin(other, new, 4))
                found = [self.new(one, order, turn) for one in ahead(web, now)]
                self.assertEqual(tuple(sorted(found)), ahead(other, new))

    def test_repaints(self):
        for web, state, order, turn in self.cases():
            other, beside = renamed(web, turned(state, turn), order)
            places = {one: place for place, one in enumerate(order)}
            for function in (calmed, stirring):
                lots = [tuple(sorted(places[one] for one in lot)) for lot in function(web, state)]
                self.assertEqual(tuple(sorted(lots)), function(other, beside))

    def test_stories(self):
        for web, state, order, turn in self.cases():
            other, beside = renamed(web, turned(state, turn), order)
            for place, one in enumerate(order):
                told = "".join(str((int(sign) + turn) % 3) for sign in story(web, state, one, 12))
                self.assertEqual(told, story(other, beside, place, 12))
                for mood in range(3):
                    self.assertEqual(
                        when_mood(web, state, one, mood),
                        when_mood(other, beside, place, (mood + turn) % 3),
                    )
                self.assertEqual(
                    when_changed(web, state, one, 9), when_changed(other, beside, place, 9),
                )
            if web[0] <= 5:
                told, after = story(web, state, order[0], 2), story(other, beside, 0, 2)
                found = [self.new(one, order, turn) for one in fits(web, order[0], told)]
                self.assertEqual(tuple(sorted(found)), fits(other, 0, after))

    def test_likenesses(self):
        for web, state, order, turn in self.cases():
            if web[0] <= 5:
                other, beside = renamed(web, turned(state, turn), order)
                self.assertEqual(len(likenesses(web, state)), len(likenesses(other, beside)))


class LawsTest(unittest.TestCase):
    """What the points say of one another, on webs and states of all sizes."""

    def cases(self):
        yield from SINGLE
        yield from WOUND
        yield from random_cases(25, seed=83)

    def test_papers(self):
        for web, state in self.cases():
            word, shown = rest_paper(web, state)
            self.assertEqual(rests(web, state), word == "rests")
            self.assertTrue(judged_rest(web, state, (word, shown)))
            self.assertTrue(judged_speed(web, state, speed(web, state), speed_paper(web, state)))
            slow = [pace == (0, 1) for pace in speed(web, state)]
            self.assertEqual(rests(web, state), all(slow))
            self.assertEqual(slow, [busy_ring(web, state, one) is None for one in range(web[0])])

    def test_rests_and_rounds(self):
        for web, state in self.cases():
            first, period = coming_round(web, state)
            self.assertEqual(or_none(rest_tick, web, state), first if rests(web, state) else None)
            if rests(web, state):
                self.assertEqual(1, period)
                self.assertEqual(first, becomes(web, state, end(web, state)))
                self.assertLessEqual(first, longest_rest(web))
            self.assertEqual(first == 0, eldest(web, state) == "endless")
            self.assertEqual(first, meet(web, state, state_at(web, state, period)))

    def test_speeds_are_changes_of_a_round(self):
        for web, state in self.cases():
            first, period = coming_round(web, state)
            early, late = changes(web, state, first), changes(web, state, first + period)
            for many, more, (top, bottom) in zip(early, late, speed(web, state)):
                self.assertEqual((more - many) * bottom, top * period)

    def test_kin_are_those_who_become_it(self):
        for web, state in SINGLE:
            for many in (0, 1, 2, 5):
                states = [one for one in all_states(web[0]) if state_at(web, one, many) == state]
                self.assertEqual(len(states), kin(web, state, many))
            self.assertEqual(len(ahead(web, state)), kin(web, state, 1))

    def test_counts_by_all_states(self):
        for web in (LINE, THREE, FOUR, SQUARE):
            states = list(all_states(web[0]))
            ticks = [or_none(rest_tick, web, state) for state in states]
            self.assertEqual(len(states) - ticks.count(None), count_resting(web))
            self.assertEqual(
                tuple(map(ticks.count, range(longest_rest(web) + 1))), count_by_rest(web),
            )
            found = {pace for state in states for pace in speed(web, state)}
            self.assertEqual(tuple(sorted(found, key=size)), all_speeds(web))
            self.assertEqual(fastest(web), all_speeds(web)[-1])

    def test_stories_are_moods(self):
        for web, state in self.cases():
            states = run(web, state, 40)
            for one in range(web[0]):
                told = story(web, state, one, 40)
                self.assertEqual(told, "".join(str(now[one]) for now in states))
                for mood in range(3):
                    tick_of = told.find(str(mood))
                    if tick_of >= 0:
                        self.assertEqual(tick_of, when_mood(web, state, one, mood))

    def test_texts(self):
        for web, state in self.cases():
            self.assertEqual(web, read_web(write_web(web)))
            self.assertEqual(state, read_state(web, write_state(web, state)))

    def test_streets_that_are_stretched(self):
        for web, state in SINGLE:
            for a, b in web[1]:
                longer, moods = stretched(web, state, a, b, (0, 1))
                self.assertEqual(state, moods[:-2])
                shorter = without_street(without_street(longer, a, web[0]), b, web[0] + 1)
                self.assertEqual(joined(without_street(web, a, b), (2, ((0, 1),))), shorter)
                # A ring is as much of a ring with more folk in it.
                self.assertEqual(calm_for_all(web), calm_for_all(longer))

    def test_a_desk_answers_as_the_functions_do(self):
        for web, state in self.cases():
            desk = Desk(read_web(write_web(web)), read_state(web, write_state(web, state)))
            for many in (0, 1, 6, 10 ** 20):
                if many > 0:
                    desk.run(f"ticks {many}")
                now = desk.state
                self.assertEqual(state_at(web, state, desk.ticks), now)
                self.assertEqual(write_state(web, now), desk.run("state"))
                rest = or_none(rest_tick, web, now)
                self.assertEqual("never" if rest is None else str(rest), desk.run("rest"))
                folk = " ".join(map(str, stirred(web, now))) or "nobody"
                self.assertEqual(folk, desk.run("stirred"))
                for one, (top, bottom) in enumerate(speed(web, now)):
                    self.assertEqual(f"{top}/{bottom}", desk.run(f"speed {one}"))


if __name__ == "__main__":
    unittest.main()
