"""Heads: which pipes are put together, and what is known of the rows at each place."""

from rowpipes.branches import branches_of
from rowpipes.cells import WIDEST_ROW, sort_of
from rowpipes.errors import NoPipe, NoPlace

TALLY = "t"
ONE_ROW = ("keep", "same", "cut", "turn", "must")


# The columns that a worker asks of the rows it is told.

def no_columns(worker):
    return ()


def one_column(worker):
    return (worker[1],)


def two_columns(worker):
    return worker[1:3]


def listed_columns(worker):
    return worker[1]


def sort_columns(worker):
    return tuple([column for column, greatest_first in worker[1]])


def sum_columns(worker):
    return worker[1] + (worker[2],)


COLUMNS_OF = {
    "keep": one_column,
    "same": two_columns,
    "cut": listed_columns,
    "turn": one_column,
    "must": one_column,
    "walk": one_column,
    "sort": sort_columns,
    "apart": no_columns,
    "count": listed_columns,
    "sum": sum_columns,
    "number": no_columns,
    "first": no_columns,
    "both": no_columns,
}


def is_there(column, head):
    return 1 <= column <= len(head)


def columns_fit(worker, heads):
    """Whether the rows have the worker's columns; heads are those of the rows that it is told."""
    if worker[0] == "meet":
        return is_there(worker[1], heads[0]) and is_there(worker[2], heads[1])
    columns_of = COLUMNS_OF[worker[0]]
    return all([is_there(column, heads[0]) for column in columns_of(worker)])


# Whether a worker's cells and sets are of the sorts of its columns, which are there.

def are_same_sort(one, other):
    return one == other and one != TALLY


def cells_fit(cells, column_sort):
    return column_sort != TALLY and all([sort_of(cell) == column_sort for cell in cells])


def keep_fits(worker, heads):
    column_sort = heads[0][worker[1] - 1]
    return worker[2][0] == ("n" if column_sort == TALLY else column_sort)


def same_fits(worker, heads):
    return are_same_sort(heads[0][worker[1] - 1], heads[0][worker[2] - 1])


def turn_fits(worker, heads):
    return cells_fit([cell for pair in worker[2] for cell in pair], heads[0][worker[1] - 1])


def must_fits(worker, heads):
    if len({sort_of(new) for old, new in worker[2]}) > 1:
        return False
    return cells_fit([old for old, new in worker[2]], heads[0][worker[1] - 1])


def walk_fits(worker, heads):
    cells = [cell for state, cell, after in worker[3] if cell is not None]
    return cells_fit(cells, heads[0][worker[1] - 1])


def sum_fits(worker, heads):
    return heads[0][worker[2] - 1] != "w"


def both_fits(worker, heads):
    return heads[0] == heads[1]


def meet_fits(worker, heads):
    return are_same_sort(heads[0][worker[1] - 1], heads[1][worker[2] - 1])


# What isn't listed takes columns of any sort.
SORTS_FIT = {
    "keep": keep_fits,
    "same": same_fits,
    "turn": turn_fits,
    "must": must_fits,
    "walk": walk_fits,
    "sum": sum_fits,
    "both": both_fits,
    "meet": meet_fits,
}


def sorts_fit(worker, heads):
    if worker[0] not in SORTS_FIT:
        return True
    fit = SORTS_FIT[worker[0]]
    return fit(worker, heads)


# The head of the rows that a worker tells.

def picked(head, columns):
    return tuple([head[column - 1] for column in columns])


def head_of_cut(worker, heads):
    return picked(heads[0], worker[1])


def head_of_must(worker, heads):
    column, pairs = worker[1], worker[2]
    told = [sort_of(new) for old, new in pairs[:1]]
    # Without a pair no row comes by, and the column stays what it was.
    return heads[0][:column - 1] + (tuple(told) or heads[0][column - 1:column]) + heads[0][column:]


def head_of_walk(worker, heads):
    return heads[0] + ("w",)


def head_of_tallied(worker, heads):
    return picked(heads[0], worker[1]) + (TALLY,)


def head_of_number(worker, heads):
    return heads[0] + (TALLY,)


def head_of_meet(worker, heads):
    return heads[0] + heads[1][:worker[2] - 1] + heads[1][worker[2]:]


# What isn't listed leaves the head as it is.
HEADS_TOLD = {
    "cut": head_of_cut,
    "must": head_of_must,
    "walk": head_of_walk,
    "count": head_of_tallied,
    "sum": head_of_tallied,
    "number": head_of_number,
    "meet": head_of_meet,
}


def head_told(worker, heads):
    if worker[0] not in HEADS_TOLD:
        return heads[0]
    head_of_told = HEADS_TOLD[worker[0]]
    return head_of_told(worker, heads)


# What is known at a place: (head, passed, loose), passed being the names of
# the workers that the rows come through, loose whether the place is so.

def name_passed(worker):
    """The name, but a first 0 for itself: no order of rows counts behind it."""
    if worker[0] == "first" and worker[1] <= 0:
        return "first 0"
    return worker[0]


def rows_fit(worker, known):
    if worker[0] == "walk":
        return all([name in ONE_ROW for name in known[1]])
    if worker[0] == "meet":
        return all([inner[0] in ONE_ROW for branch in branches_of(worker) for inner in branch])
    return True


def why_not(worker, known, heads):
    """Why the worker can't stand where this is known, told rows of these heads; None if it can."""
    if not columns_fit(worker, heads):
        return "column"
    if not sorts_fit(worker, heads):
        return "sort"
    if len(head_told(worker, heads)) > WIDEST_ROW:
        return "wide"
    if not rows_fit(worker, known):
        return "rows"
    if worker[0] == "must" and known[2]:
        return "loose"
    return None


def makes_loose(worker, known):
    """Whether the places behind the worker are loose by it."""
    head, passed, loose = known
    if worker[0] == "keep":
        return head[worker[1] - 1] == TALLY
    if name_passed(worker) == "first":
        return any([name in passed for name in ("walk", "both", "meet")])
    if worker[0] == "meet":
        return any([name in passed for name in ("walk", "first")])
    return False


def known_behind(worker, known, told):
    """What is known behind the worker; told is what is known of the rows that it is told."""
    names = [name for head, passed, loose in told for name in passed]
    return (
        head_told(worker, [head for head, passed, loose in told]),
        tuple(sorted(set(names + [name_passed(worker)]))),
        makes_loose(worker, known) or any([loose for head, passed, loose in told]),
    )


def go_through(pipe, begun, prefix, found):
    """What is known at the pipe's end; puts (place, head, loose) of each place into found."""
    known = begun
    for at, worker in enumerate(pipe):
        place = prefix + (at,)
        found.append((place, known[0], known[2]))
        told = []
        for side, branch in enumerate(branches_of(worker)):
            told.append(go_through(branch, known, place + (side,), found))
        if len(told) == 0:
            told.append(known)
        why = why_not(worker, known, [head for head, passed, loose in told])
        if why is not None:
            raise NoPipe(place, why)
        known = known_behind(worker, known, told)
    found.append((prefix + (len(pipe),), known[0], known[2]))
    return known


def survey(head, pipe):
    """A tuple (place, head there, whether it is loose) for each place in running order; or NoPipe."""
    found = []
    go_through(pipe, (head, (), False), (), found)
    return found


def head_behind(head, pipe):
    """The head of what the pipe tells of rows of this head; or NoPipe."""
    return survey(head, pipe)[-1][1]


def look_up(seen, place):
    """What a survey has of this place: (head, loose); or NoPlace."""
    for there, head, loose in seen:
        if there == place:
            return (head, loose)
    raise NoPlace("the pipe has no such place")


def is_loose(head, pipe, place):
    """Whether the place is loose; or NoPipe, NoPlace."""
    return look_up(survey(head, pipe), place)[1]
