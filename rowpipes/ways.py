"""Ways: which rows come to a place, and where a worker leads them.

A way here is a tuple (sets, columns, rows). Its sets and columns are those of
a way as papers have them; rows are the rows of the kind that bring it, each a
tuple of ("of", i) and ("is", cell) too, so that a choice from the sets makes
cells of them. A way without rows is led like any other.
"""

from rowpipes.sets import another, common, has, is_none, just, lies_in, only, without

ANY = ("any",)


def ways_of(kind):
    """The way of a kind, in a list; none for a kind with a set without cells."""
    if any([is_none(told) for told in kind]):
        return []
    columns = tuple([("of", at) for at in range(len(kind))])
    return [(tuple(kind), columns, (columns,))]


# Parts of a way exchanged.

def with_set(way, at, told):
    """In a list the way with this set in place of its set at; none if that has no cell."""
    sets, columns, rows = way
    if is_none(told):
        return []
    return [(sets[:at] + (told,) + sets[at + 1:], columns, rows)]


def with_column(way, column, entry):
    sets, columns, rows = way
    return (sets, columns[:column - 1] + (entry,) + columns[column:], rows)


def with_columns(way, columns):
    return (way[0], columns, way[2])


def picked(way, columns):
    """The entries of these columns of the way."""
    return tuple([way[1][column - 1] for column in columns])


def renamed(entries, old, new):
    return tuple([new if entry == old else entry for entry in entries])


def with_rows_ahead(way, rows):
    return (way[0], way[1], rows + way[2])


# One way led by one worker: a list of ways.

def kept(way, column, wanted):
    """The way as by keep of this set."""
    entry = way[1][column - 1]
    if entry[0] == "of":
        return with_set(way, entry[1], common(way[0][entry[1]], wanted))
    if entry[0] == "is" and not has(wanted, entry[1]):
        return []
    return [way]


def dropped(way, column, cells):
    """The way as by keep of all but these cells; its column is no ("any",)."""
    entry = way[1][column - 1]
    if entry[0] == "of":
        return with_set(way, entry[1], without(way[0][entry[1]], cells))
    return [] if entry[1] in cells else [way]


def united(way, column, other_column):
    """The way as by same of these columns."""
    one, other = picked(way, (column, other_column))
    if one == other:
        return [way]
    if one[0] == "is":
        return kept(way, other_column, just(one[1]))
    if other[0] == "is":
        return kept(way, column, just(other[1]))
    shared = common(way[0][one[1]], way[0][other[1]])
    return [
        (sets, renamed(columns, other, one), tuple([renamed(row, other, one) for row in rows]))
        for sets, columns, rows in with_set(way, one[1], shared)
    ]


def lead_keep(worker, way):
    return kept(way, worker[1], worker[2])


def lead_same(worker, way):
    return united(way, worker[1], worker[2])


def lead_cut(worker, way):
    return [with_columns(way, picked(way, worker[1]))]


def lead_must(worker, way):
    """The ways to which a must leads this one, and a turn as far as it changes cells."""
    column, pairs = worker[1], worker[2]
    return [
        with_column(changed, column, ("is", new))
        for old, new in pairs
        for changed in kept(way, column, just(old))
    ]


def lead_turn(worker, way):
    return lead_must(worker, way) + dropped(way, worker[1], [old for old, new in worker[2]])


def lead_nowhere_else(worker, way):
    return [way]


def lead_tallied(worker, way):
    return [with_columns(way, picked(way, worker[1]) + (ANY,))]


def lead_number(worker, way):
    return [with_columns(way, way[1] + (ANY,))]


def lead_first(worker, way):
    return [way] if worker[1] > 0 else []


# Not walk, which is told states too, nor both and meet, which have branches.
LEADS = {
    "keep": lead_keep,
    "same": lead_same,
    "cut": lead_cut,
    "turn": lead_turn,
    "must": lead_must,
    "sort": lead_nowhere_else,
    "apart": lead_nowhere_else,
    "count": lead_tallied,
    "sum": lead_tallied,
    "number": lead_number,
    "first": lead_first,
}


def led(worker, way):
    """The ways to which a worker other than walk, both, meet leads this one."""
    lead = LEADS[worker[0]]
    return lead(worker, way)


def cells_of_moves(worker, state):
    """The cells other than None with which a walk has moves of this state."""
    return [cell for before, cell, after in worker[3] if before == state and cell is not None]


def moved(worker, state, way):
    """Pairs (next, way): to what a walk in this state leads the way, its columns without the next."""
    cells = cells_of_moves(worker, state)
    found = []
    for before, cell, after in worker[3]:
        if before == state:
            through = dropped(way, worker[1], cells) if cell is None else kept(way, worker[1], just(cell))
            found.extend([(after, step) for step in through])
    return found


def walked(worker, states, way):
    """The ways to which a walk leads this one; states is a dict of the rows that lead to each of them."""
    found = []
    for state, ahead in states.items():
        for after, step in moved(worker, state, way):
            behind = with_columns(step, step[1] + (("is", after),))
            found.append(with_rows_ahead(behind, ahead))
    return found


def shifted(entries, many):
    return tuple([("of", entry[1] + many) if entry[0] == "of" else entry for entry in entries])


def met(worker, one, other):
    """The ways to which a meet leads these two from the ends of its branches."""
    many, wide = len(one[0]), len(one[1])
    beside = (
        one[0] + other[0],
        one[1] + shifted(other[1], many),
        one[2] + tuple([shifted(row, many) for row in other[2]]),
    )
    second = wide + worker[2]
    return [
        with_columns(way, way[1][:second - 1] + way[1][second:])
        for way in united(beside, worker[1], second)
    ]


# What a worker can't take.

def not_taken(worker, way):
    """In a list the way with the cells alone that a must can't take; none if it takes all."""
    return dropped(way, worker[1], [old for old, new in worker[2]])


def not_taken_in(worker, state, way):
    """In a list the way with the cells alone that a walk in this state can't take; none if it takes all."""
    if any([before == state and cell is None for before, cell, after in worker[3]]):
        return []
    return dropped(way, worker[1], cells_of_moves(worker, state))


# The rows that bring a way.

def unlike(rows):
    found = []
    for row in rows:
        if row not in found:
            found.append(row)
    return found


def rows_by(way, chosen):
    """The rows of the way by a choice: a dict of the cells of some sets, any cells of the others."""
    cells = [chosen.get(at, another(told, None)) for at, told in enumerate(way[0])]
    rows = [
        tuple([cells[entry[1]] if entry[0] == "of" else entry[1] for entry in row])
        for row in way[2]
    ]
    # Rows that lead a walk on are wanted as often as they stand. Of rows that
    # meet one of each is enough, and many alike ones would meet very often.
    return rows if any([entry[0] == "is" for row in way[2] for entry in row]) else unlike(rows)


def some_rows(way):
    """Rows that bring some row of the way."""
    return rows_by(way, {})


def choice_for(way, row):
    """The cells of the sets by which this row comes of the way, which has no ("any",); None if it doesn't."""
    sets, columns, rows = way
    if len(columns) != len(row):
        return None
    chosen = {}
    for entry, cell in zip(columns, row):
        if entry[0] == "is" and entry[1] != cell:
            return None
        if entry[0] == "of" and not (has(sets[entry[1]], cell) and chosen.setdefault(entry[1], cell) == cell):
            return None
    return chosen


# Ways within one another.

def one_cell(way, entry):
    """The one cell that a column, no ("any",), has in all rows of the way; None where it has several."""
    return entry[1] if entry[0] == "is" else only(way[0][entry[1]])


def column_lies_in(way, entry, other, wanted):
    """Whether a column of the way lies within that column of the other one, by itself."""
    if wanted[0] == "any":
        return True
    if entry[0] == "any":
        return False
    if wanted[0] == "is":
        return one_cell(way, entry) == wanted[1]
    if entry[0] == "is":
        return has(other[0][wanted[1]], entry[1])
    return lies_in(way[0][entry[1]], other[0][wanted[1]])


def are_one(way, one, other):
    """Whether two columns of the way are of one set, or have the same one cell."""
    if one[0] == "of" and one == other:
        return True
    return one_cell(way, one) is not None and one_cell(way, one) == one_cell(way, other)


def lies_within(way, other):
    """Whether the way lies within the other one; columns are of the same sorts in both."""
    if len(way[1]) != len(other[1]):
        return False
    beside = list(zip(way[1], other[1]))
    if not all([column_lies_in(way, entry, other, wanted) for entry, wanted in beside]):
        return False
    bound = [(entry, wanted) for entry, wanted in beside if wanted[0] == "of"]
    return all([
        are_one(way, entry, entry_behind)
        for at, (entry, wanted) in enumerate(bound)
        for entry_behind, wanted_behind in bound[at + 1:]
        if wanted == wanted_behind
    ])
