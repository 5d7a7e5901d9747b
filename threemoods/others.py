"""Others: webs with other streets, joined, stretched and renamed, and likenesses."""

from threemoods.checks import (
    MOODS, MOST_FOLK, are_moods, check_few, check_folk, check_state, check_web, is_folk,
)
from threemoods.errors import BadOrder, BadState, BadStreet, TooMany
from threemoods.webs import neighbours

LONGEST_ROW = 9


def street_between(one, other):
    """The pair of two unlike folk, the lesser one first."""
    return min(one, other), max(one, other)


def check_room(many):
    """Raise TooMany for more folk than a web may have."""
    if many > MOST_FOLK:
        raise TooMany(MOST_FOLK)


def check_there(web, street):
    """Raise BadStreet for a street that a web does not have."""
    if street not in web[1]:
        raise BadStreet("this street is not there")


def check_order(web, value):
    """Raise BadOrder if a value is no tuple of all folk of a web."""
    if not isinstance(value, tuple) or len(value) != web[0]:
        raise BadOrder("an order is a tuple of all folk")
    for index, one in enumerate(value):
        if not is_folk(one, web[0]) or one in value[:index]:
            raise BadOrder("an order holds each of the folk once")


def with_street(web, a, b):
    """The web with a street between two unlike folk that was not there."""
    check_web(web)
    check_folk(web, a)
    check_folk(web, b)
    many, streets = web
    street = street_between(a, b)
    if a == b or street in streets:
        raise BadStreet("this street cannot be built")
    return many, tuple(sorted(streets + (street,)))


def without_street(web, a, b):
    """The web without the street between two folk."""
    check_web(web)
    check_folk(web, a)
    check_folk(web, b)
    street = street_between(a, b)
    check_there(web, street)
    return web[0], tuple([item for item in web[1] if item != street])


def joined(web, other):
    """The web with the folk of another one behind its own, no street between."""
    check_web(web)
    check_web(other)
    many = web[0]
    check_room(many + other[0])
    moved = tuple([(one + many, another + many) for one, another in other[1]])
    return many + other[0], web[1] + moved


def stretched(web, state, a, b, moods):
    """The web and the state with new folk in a row, from a on, where a street was."""
    check_web(web)
    check_state(web, state)
    check_folk(web, a)
    check_folk(web, b)
    street = street_between(a, b)
    check_there(web, street)
    if not are_moods(moods) or not 1 <= len(moods) <= LONGEST_ROW:
        raise BadState("the moods of new folk are a tuple of 1 to 9 moods")
    many = web[0] + len(moods)
    check_room(many)
    row = [a] + list(range(web[0], many)) + [b]
    added = [street_between(one, other) for one, other in zip(row, row[1:])]
    kept = [item for item in web[1] if item != street]
    return (many, tuple(sorted(kept + added))), state + moods


def renamed(web, state, order):
    """The web and the state in which each number is that of whom the order names there."""
    check_web(web)
    check_state(web, state)
    check_order(web, order)
    streets = [street_between(order.index(one), order.index(other)) for one, other in web[1]]
    return (web[0], tuple(sorted(streets))), tuple([state[one] for one in order])


def goes_on(near, row, one):
    """Whether one has just the streets to a row of folk that its next place has to theirs."""
    place = len(row)
    return all([(at in near[place]) == (other in near[one]) for at, other in enumerate(row)])


def orders_by_turn(near, state, turn):
    """The orders that keep a web as it is and turn the moods of its state."""
    folk = range(len(near))
    rows = [()]
    for place in folk:
        mood = (state[place] + turn) % MOODS
        able = [one for one in folk if state[one] == mood]
        rows = [
            row + (one,) for row in rows for one in able
            if one not in row and goes_on(near, row, one)
        ]
    return rows


def likenesses(web, state):
    """The ascending tuple of the pairs of an order and a turn that lead to the same web and state.

    The state renamed by the order is the state with the turn added to each mood.
    """
    check_web(web)
    check_state(web, state)
    check_few(web)
    near = neighbours(web)
    found = [
        (order, turn) for turn in range(MOODS) for order in orders_by_turn(near, state, turn)
    ]
    return tuple(sorted(found))
