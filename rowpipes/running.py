"""Pipes run over rows."""

from rowpipes.errors import Falls
from rowpipes.sets import has


# Of each worker: the rows that it tells of those that it is told, at its place.

def run_keep(worker, rows, place):
    return [row for row in rows if has(worker[2], row[worker[1] - 1])]


def run_same(worker, rows, place):
    return [row for row in rows if row[worker[1] - 1] == row[worker[2] - 1]]


def picked(row, columns):
    return tuple([row[column - 1] for column in columns])


def run_cut(worker, rows, place):
    return [picked(row, worker[1]) for row in rows]


def exchanged(row, column, cell):
    return row[:column - 1] + (cell,) + row[column:]


def run_turn(worker, rows, place):
    column, becomes = worker[1], dict(worker[2])
    return [exchanged(row, column, becomes.get(row[column - 1], row[column - 1])) for row in rows]


def run_must(worker, rows, place):
    column, becomes = worker[1], dict(worker[2])
    for row in rows:
        if row[column - 1] not in becomes:
            raise Falls(place, row)
    return [exchanged(row, column, becomes[row[column - 1]]) for row in rows]


def run_walk(worker, rows, place):
    column, state = worker[1], worker[2]
    nexts = {(before, cell): after for before, cell, after in worker[3]}
    found = []
    for row in rows:
        # None as a cell stands for all that the state has no move with.
        state = nexts.get((state, row[column - 1]), nexts.get((state, None)))
        if state is None:
            raise Falls(place, row)
        found.append(row + (state,))
    return found


def sorted_by(rows, column, greatest_first):
    if greatest_first:
        return sorted(rows, key=lambda row: row[column - 1], reverse=True)
    return sorted(rows, key=lambda row: row[column - 1])


def run_sort(worker, rows, place):
    found = rows
    # The last column first: rows alike in the columns ahead keep that order.
    for column, greatest_first in worker[1][::-1]:
        found = sorted_by(found, column, greatest_first)
    return found


def run_apart(worker, rows, place):
    return [row for at, row in enumerate(rows) if at == 0 or row != rows[at - 1]]


def stretches(rows, columns):
    """The rows in stretches, as long as can be, of rows alike in these columns."""
    found = []
    for row in rows:
        if found and picked(found[-1][0], columns) == picked(row, columns):
            found[-1].append(row)
        else:
            found.append([row])
    return found


def run_count(worker, rows, place):
    columns = worker[1]
    return [picked(stretch[0], columns) + (len(stretch),) for stretch in stretches(rows, columns)]


def run_sum(worker, rows, place):
    columns, summed = worker[1], worker[2]
    return [
        picked(stretch[0], columns) + (sum([row[summed - 1] for row in stretch]),)
        for stretch in stretches(rows, columns)
    ]


def run_number(worker, rows, place):
    return [row + (at,) for at, row in enumerate(rows, start=1)]


def run_first(worker, rows, place):
    return rows[:max(worker[1], 0)]


def run_both(worker, rows, place):
    return run_pipe(worker[1], rows, place + (0,)) + run_pipe(worker[2], rows, place + (1,))


def met_rows(worker, ones, others):
    """The rows that a meet tells where its branches tell these."""
    column, other_column = worker[1], worker[2]
    return [
        one + other[:other_column - 1] + other[other_column:]
        for one in ones
        for other in others
        if one[column - 1] == other[other_column - 1]
    ]


def run_meet(worker, rows, place):
    ones = run_pipe(worker[3], rows, place + (0,))
    others = run_pipe(worker[4], rows, place + (1,))
    return met_rows(worker, ones, others)


RUNS = {
    "keep": run_keep,
    "same": run_same,
    "cut": run_cut,
    "turn": run_turn,
    "must": run_must,
    "walk": run_walk,
    "sort": run_sort,
    "apart": run_apart,
    "count": run_count,
    "sum": run_sum,
    "number": run_number,
    "first": run_first,
    "both": run_both,
    "meet": run_meet,
}


def run_pipe(pipe, rows, prefix):
    """The rows that the pipe tells; prefix stands ahead of its places."""
    # A copy: a pipe without workers must not tell the very list it was handed.
    found = list(rows)
    for at, worker in enumerate(pipe):
        run = RUNS[worker[0]]
        found = run(worker, found, prefix + (at,))
    return found


def told(pipe, rows):
    """The rows that the pipe tells of these rows; or Falls."""
    return run_pipe(pipe, rows, ())
