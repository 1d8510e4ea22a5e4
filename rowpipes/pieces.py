"""Pipes fed piece by piece: a state for each worker, the rows that it tells now, and those at the end."""

from rowpipes.branches import branches_of
from rowpipes.running import RUNS, met_rows, picked, run_apart, run_sort, run_walk


# The state of a worker to which nothing came. What isn't listed keeps nothing then.

def begin_walk(worker):
    return (worker[2],)


def begin_sort(worker):
    return ((),)


def begin_number(worker):
    return (1,)


def begin_first(worker):
    return (worker[1],)


def begin_branches(worker):
    return tuple([begun(branch) for branch in branches_of(worker)])


def begin_both(worker):
    return begin_branches(worker) + ((),)


def begin_meet(worker):
    return begin_branches(worker) + ((), ())


BEGINS = {
    "walk": begin_walk,
    "sort": begin_sort,
    "number": begin_number,
    "first": begin_first,
    "both": begin_both,
    "meet": begin_meet,
}


def begin(worker):
    if worker[0] not in BEGINS:
        return ()
    begin_one = BEGINS[worker[0]]
    return begin_one(worker)


def begun(pipe):
    """The state of the pipe to which nothing came."""
    return tuple([begin(worker) for worker in pipe])


# A worker told rows: its state behind, and the rows that it tells now. What
# isn't listed is a one-row worker.

def feed_walk(worker, state, rows, place):
    # A walk in its present state is one that has this state as its first.
    found = run_walk(worker[:2] + state + worker[3:], rows, place)
    return ((found[-1][-1],) if found else state, found)


def feed_sort(worker, state, rows, place):
    return ((state[0] + tuple(rows),), [])


def feed_apart(worker, state, rows, place):
    came = list(state) + rows
    # The row kept was told when it came.
    return (tuple(came[-1:]), run_apart(worker, came, place)[len(state):])


def tallied(worker, row):
    """What the row adds to the tally of its stretch."""
    return 1 if worker[0] == "count" else row[worker[2] - 1]


def feed_stretches(worker, state, rows, place):
    found = [state] if state else []
    for row in rows:
        cells = picked(row, worker[1])
        if found and found[-1][0] == cells:
            found[-1] = (cells, found[-1][1] + tallied(worker, row))
        else:
            found.append((cells, tallied(worker, row)))
    return (found[-1] if found else (), [cells + (tally,) for cells, tally in found[:-1]])


def feed_number(worker, state, rows, place):
    return ((state[0] + len(rows),), [row + (at,) for at, row in enumerate(rows, start=state[0])])


def feed_first(worker, state, rows, place):
    found = rows[:max(state[0], 0)]
    return ((state[0] - len(found),), found)


def feed_branches(worker, state, rows, place):
    """Of each branch its state behind and the rows that it tells now."""
    return [
        feed_pipe(branch, state[side], rows, place + (side,))
        for side, branch in enumerate(branches_of(worker))
    ]


def feed_both(worker, state, rows, place):
    (one, found), (other, later) = feed_branches(worker, state, rows, place)
    return ((one, other, state[2] + tuple(later)), found)


def feed_meet(worker, state, rows, place):
    (one, ones), (other, others) = feed_branches(worker, state, rows, place)
    return ((one, other, state[2] + tuple(ones), state[3] + tuple(others)), [])


FEEDS = {
    "walk": feed_walk,
    "sort": feed_sort,
    "apart": feed_apart,
    "count": feed_stretches,
    "sum": feed_stretches,
    "number": feed_number,
    "first": feed_first,
    "both": feed_both,
    "meet": feed_meet,
}


def feed(worker, state, rows, place):
    if worker[0] not in FEEDS:
        run = RUNS[worker[0]]
        return ((), run(worker, rows, place))
    feed_one = FEEDS[worker[0]]
    return feed_one(worker, state, rows, place)


def feed_pipe(pipe, state, rows, prefix):
    """The pipe's state behind and the rows that it tells now; prefix stands ahead of its places."""
    behind = []
    # A copy: a pipe without workers must not tell the very list it was handed.
    found = list(rows)
    for at, worker in enumerate(pipe):
        worker_behind, found = feed(worker, state[at], found, prefix + (at,))
        behind.append(worker_behind)
    return (tuple(behind), found)


def fed(pipe, state, rows):
    """The state behind, and the rows that the pipe tells when these come to it in this state; or Falls."""
    return feed_pipe(pipe, state, rows, ())


# What a worker tells when no more rows come. What isn't listed has told all.

def finish_sort(worker, state, place):
    return run_sort(worker, list(state[0]), place)


def finish_stretches(worker, state, place):
    return [state[0] + (state[1],)] if state else []


def finish_branches(worker, state, place):
    return [
        finish_pipe(branch, state[side], place + (side,))
        for side, branch in enumerate(branches_of(worker))
    ]


def finish_both(worker, state, place):
    one, other = finish_branches(worker, state, place)
    return one + list(state[2]) + other


def finish_meet(worker, state, place):
    one, other = finish_branches(worker, state, place)
    return met_rows(worker, list(state[2]) + one, list(state[3]) + other)


FINISHES = {
    "sort": finish_sort,
    "count": finish_stretches,
    "sum": finish_stretches,
    "both": finish_both,
    "meet": finish_meet,
}


def finish(worker, state, place):
    if worker[0] not in FINISHES:
        return []
    finish_one = FINISHES[worker[0]]
    return finish_one(worker, state, place)


def finish_pipe(pipe, state, prefix):
    found = []
    for at, worker in enumerate(pipe):
        behind, now = feed(worker, state[at], found, prefix + (at,))
        found = now + finish(worker, behind, prefix + (at,))
    return found


def ended(pipe, state):
    """The rows that the pipe tells when no more come to it in this state; or Falls."""
    return finish_pipe(pipe, state, ())


# How many rows a worker keeps. What isn't listed keeps none.

def many_sorted(worker, state):
    return len(state[0])


def one_if_any(worker, state):
    return 1 if state else 0


def many_in_branches(worker, state):
    inner = [kept(branch, state[side]) for side, branch in enumerate(branches_of(worker))]
    # Behind the states of the branches stand the rows that these told.
    return sum(inner) + sum([len(rows) for rows in state[len(inner):]])


KEEPS = {
    "sort": many_sorted,
    "apart": one_if_any,
    "count": one_if_any,
    "sum": one_if_any,
    "both": many_in_branches,
    "meet": many_in_branches,
}


def kept_by(worker, state):
    if worker[0] not in KEEPS:
        return 0
    many = KEEPS[worker[0]]
    return many(worker, state)


def kept(pipe, state):
    """How many rows the pipe keeps in this state."""
    return sum([kept_by(worker, part) for worker, part in zip(pipe, state)])
