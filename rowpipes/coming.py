"""What can come to the places of a pipe, and where it falls."""

from rowpipes.branches import branches_of
from rowpipes.errors import Falling, NoPlace, TooMany
from rowpipes.heads import TALLY, look_up, survey
from rowpipes.kinds import head_of
from rowpipes.ways import (
    choice_for, led, met, moved, not_taken, not_taken_in, rows_by, some_rows, walked, ways_of, with_rows_ahead)

MOST_WAYS = 200
MOST_ROWS = 20


def few(ways):
    """The ways themselves; TooMany where they, or the rows that one takes, are more than are looked at."""
    if len(ways) > MOST_WAYS:
        raise TooMany("more than 200 ways come to one place")
    if any([len(way[2]) > MOST_ROWS for way in ways]):
        raise TooMany("a way takes more than twenty rows")
    return ways


def fixed_rows(way):
    """Rows that bring the way, each cell chosen for good."""
    return tuple([tuple([("is", cell) for cell in row]) for row in some_rows(way)])


def states_come_to(worker, ways):
    """The states to which a walk that is told these ways comes: a dict of the fewest rows that lead to each."""
    found = {worker[2]: ()}
    waiting = [worker[2]]
    while waiting:
        state = waiting.pop(0)
        for after, step in [pair for way in ways for pair in moved(worker, state, way)]:
            if after not in found:
                found[after] = found[state] + fixed_rows(step)
                waiting.append(after)
    return found


def cells_not_taken(worker, ways, states):
    """The ways with the cells alone that the worker can't take."""
    if worker[0] == "must":
        return [bad for way in ways for bad in not_taken(worker, way)]
    return [
        with_rows_ahead(bad, ahead)
        for state, ahead in states.items()
        for way in ways
        for bad in not_taken_in(worker, state, way)
    ]


def want_no_fall(worker, place, ways, states):
    """Falling where the worker can't take a cell of these ways."""
    bad = few(cells_not_taken(worker, ways, states)[:1])
    if bad:
        raise Falling(place, some_rows(bad[0]))


def led_one(worker, way, states, ends):
    """The ways to which a worker other than both leads this one, for meet a way from its first branch's end."""
    if worker[0] == "walk":
        return walked(worker, states, way)
    if worker[0] == "meet":
        return [found for other in ends[1] for found in met(worker, way, other)]
    return led(worker, way)


def lead_on(worker, ways, states, ends):
    """The ways behind the worker; ends are those at the ends of its branches."""
    if worker[0] == "both":
        return few(ends[0] + ends[1])
    begun = ends[0] if worker[0] == "meet" else ways
    found = []
    for way in begun:
        # Asked at each way, so that no more are made than need be.
        found = few(found + led_one(worker, way, states, ends))
    return found


def lead_pipe(pipe, begun, prefix, found):
    """The ways at the pipe's end; puts (place, ways, states) of each place into found."""
    ways = begun
    for at, worker in enumerate(pipe):
        place = prefix + (at,)
        states = states_come_to(worker, ways) if worker[0] == "walk" else {}
        found.append((place, ways, states))
        if worker[0] in ("must", "walk"):
            want_no_fall(worker, place, ways, states)
        ends = []
        for side, branch in enumerate(branches_of(worker)):
            ends.append(lead_pipe(branch, ways, place + (side,), found))
        ways = lead_on(worker, ways, states, ends)
    found.append((prefix + (len(pipe),), ways, {}))
    return ways


def lead_through(kind, pipe):
    """A tuple (place, ways, states) for each place in running order, states with the rows that lead to them.

    For a pipe that is put together; Falling or TooMany, whichever place comes first.
    """
    found = []
    lead_pipe(pipe, ways_of(kind), (), found)
    return found


def first_fall(kind, pipe):
    """The first place at which rows of the kind fall, and such rows; None if none do; or NoPipe, TooMany."""
    survey(head_of(kind), pipe)
    try:
        lead_through(kind, pipe)
    except Falling as fall:
        return (fall.place, fall.rows)
    return None


def ways_at(kind, pipe, place):
    """The ways that come to a place which the pipe has; NoPlace if it isn't let by, or TooMany."""
    try:
        found = lead_through(kind, pipe)
    except Falling:
        raise NoPlace("the pipe is not let by") from None
    return [way for there, ways, states in found if there == place for way in ways]


def bringing(kind, pipe, place, row):
    """Rows of the kind that bring the row to the place, None if none do; or NoPipe, NoPlace, TooMany."""
    head, loose = look_up(survey(head_of(kind), pipe), place)
    if loose or TALLY in head:
        raise NoPlace("what comes to a loose place, or to one with a tally, is not told")
    for way in ways_at(kind, pipe, place):
        chosen = choice_for(way, row)
        if chosen is not None:
            return rows_by(way, chosen)
    return None
