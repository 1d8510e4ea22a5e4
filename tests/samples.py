"""Kinds, pipes and rows for the tests, the same ones each time."""

import itertools
import random

from rowpipes.errors import NoPipe
from rowpipes.heads import head_behind
from rowpipes.kinds import is_of
from rowpipes.running import told

NUMBERS = (0, 1, 2)
WORDS = ("a", "b", "c")
STATES = ("p", "q", "z")
ONE_ROW = ("keep", "same", "cut", "turn", "must")
NAMES = ONE_ROW + ("walk", "sort", "apart", "count", "sum", "number", "first", "both", "meet")


def cells_of(sort):
    return WORDS if sort == "w" else NUMBERS


def some_set(chance, sort):
    """A set of this sort, with few cells, with endlessly many or with none."""
    cells = sorted(chance.sample(cells_of(sort), chance.choice((0, 1, 1, 2, 2, 2, 2, 3, 3, 3, 3, 3))))
    if sort == "w":
        return ("w", chance.random() < 0.7, tuple(cells))
    spans = []
    for cell in cells:
        if spans and spans[-1][1] == cell - 1:
            spans[-1] = (spans[-1][0], cell)
        else:
            spans.append((cell, cell))
    if spans and chance.random() < 0.2:
        spans[-1] = (spans[-1][0], None)
    return ("n", tuple(spans))


def some_kind(chance, most=2):
    return [some_set(chance, chance.choice("nw")) for column in range(chance.randint(1, most))]


def some_columns(chance, head, least, most):
    return tuple(chance.randint(1, len(head)) for column in range(chance.randint(least, most)))


def some_worker(chance, head, names, deep):
    """A worker that may or may not stand where rows of this head come."""
    name = chance.choice(names)
    column = chance.randint(1, len(head))
    sort = "w" if head[column - 1] == "w" else "n"
    cells = cells_of(sort)
    if name == "keep":
        return (name, column, some_set(chance, sort))
    if name == "turn":
        return (name, column, tuple((old, chance.choice(cells)) for old in chance.sample(cells, 2)))
    if name == "must":
        news = cells_of(chance.choice("nw"))
        return (name, column, tuple((old, chance.choice(news)) for old in chance.sample(cells, chance.choice((2, 3, 3)))))
    if name == "walk":
        keys = chance.sample([(state, cell) for state in STATES for cell in cells + (None,)], chance.randint(3, 9))
        return (name, column, "p", tuple((state, cell, chance.choice(STATES)) for state, cell in keys))
    if name in ("same", "meet"):
        columns = some_columns(chance, head, 2, 2)
        return (name,) + columns + (some_branches(chance, head, ONE_ROW, deep) if name == "meet" else ())
    if name == "cut":
        return (name, some_columns(chance, head, 1, 3))
    if name == "sort":
        return (name, ((column, chance.random() < 0.5),))
    if name == "count":
        return (name, some_columns(chance, head, 0, 2))
    if name == "sum":
        return (name, some_columns(chance, head, 0, 2), column)
    if name == "first":
        return (name, chance.choice((0, 1, 1, 2)))
    if name == "both":
        return (name,) + some_branches(chance, head, names, deep)
    return (name,)


def some_branches(chance, head, names, deep):
    return tuple(some_pipe(chance, head, names, 2, deep + 1) for branch in "PQ")


def some_pipe(chance, head, names=NAMES, most=4, deep=0):
    """A pipe that is put together for the head."""
    pipe = ()
    for worker in range(chance.randint(0, most) if deep < 3 else 0):
        here = head_behind(head, pipe)
        for tried in range(6):
            longer = pipe + (some_worker(chance, here, names, deep),)
            try:
                head_behind(head, longer)
            except NoPipe:
                continue
            pipe = longer
            break
    return pipe


def rows_of(kind):
    """The rows of the kind with the cells that pipes here speak of, and some others."""
    cells = [NUMBERS + (3,) if told_set[0] == "n" else WORDS + ("d",) for told_set in kind]
    return [row for row in itertools.product(*cells) if is_of(kind, row)]


def lists_of(kind, most=150):
    """All lists of such rows, up to three long, where they are not too many."""
    rows = rows_of(kind)
    found = [[]]
    for many in (1, 2, 3):
        if len(rows) ** many <= most:
            found.extend(list(picked) for picked in itertools.product(rows, repeat=many))
    return found


def rows_at(pipe, rows, place):
    """The rows that come to the place."""
    here = told(pipe[:place[0]], rows)
    if len(place) == 1:
        return here
    return rows_at(pipe[place[0]][-2:][place[1]], here, place[2:])


def cases(many, most_columns=2, names=NAMES, seed=0):
    """Kinds and pipes put together for their heads."""
    found = []
    for number in range(many):
        chance = random.Random(seed * 100000 + number)
        kind = some_kind(chance, most_columns)
        pipe = some_pipe(chance, tuple(told_set[0] for told_set in kind), names)
        # One meet behind another: the rows become too many to run them all.
        if str(pipe).count("meet") <= 2:
            found.append((kind, pipe))
    return found
