"""Whether a paper holds, looked at as points 15 to 17 say it, word by word, beside the program."""

from rowpipes.heads import survey
from rowpipes.places import places
from rowpipes.sets import another, common, has, is_none, lies_in, rest_of

ANY = ("any",)


def just(cell):
    return ("w", True, (cell,)) if isinstance(cell, str) else ("n", ((cell, cell),))


def exchanged(way, at, told):
    return (way[0][:at] + (told,) + way[0][at + 1:], way[1])


def put(way, column, entry):
    return (way[0], way[1][:column - 1] + (entry,) + way[1][column:])


def keep(way, column, wanted):
    kind, *value = way[1][column - 1]
    if kind == "any":
        return [way]
    if kind == "is":
        return [way] if has(wanted, value[0]) else []
    return [exchanged(way, value[0], common(way[0][value[0]], wanted))]


def same(way, one, other):
    (kind, *value), (other_kind, *other_value) = way[1][one - 1], way[1][other - 1]
    if kind == other_kind == "is":
        return [way] if value == other_value else []
    if kind == "is":
        return keep(way, other, just(value[0]))
    if other_kind == "is":
        return keep(way, one, just(other_value[0]))
    if value == other_value:
        return [way]
    led = exchanged(way, value[0], common(way[0][value[0]], way[0][other_value[0]]))
    return [(led[0], tuple(("of", value[0]) if entry == ("of", other_value[0]) else entry for entry in led[1]))]


def turn(way, column, pairs, others_too):
    kind, value = way[1][column - 1]
    if kind == "is":
        return [put(way, column, ("is", dict(pairs).get(value, value)))]
    found, rest = [], way[0][value]
    for old, new in pairs:
        if has(way[0][value], old):
            found.append(put(exchanged(way, value, just(old)), column, ("is", new)))
        rest = common(rest, rest_of(just(old)))
    return found + ([exchanged(way, value, rest)] if others_too else [])


def moves_done(worker, way, state):
    """Pairs (next, way) of the moves of this state."""
    found = []
    for before, cell, after in worker[3]:
        if before != state:
            continue
        if cell is not None:
            found += [(after, led) for led in keep(way, worker[1], just(cell))]
            continue
        left = [way]
        for other_before, other, other_after in worker[3]:
            if other_before == state and other is not None:
                left = [led for one in left for led in keep(one, worker[1], rest_of(just(other)))]
        found += [(after, led) for led in left]
    return [(after, led) for after, led in found if not any(is_none(told) for told in led[0])]


def lead(worker, way, states):
    name = worker[0]
    columns = way[1]
    if name == "keep":
        return keep(way, worker[1], worker[2])
    if name == "same":
        return same(way, worker[1], worker[2])
    if name in ("turn", "must"):
        return turn(way, worker[1], worker[2], name == "turn")
    if name == "cut":
        return [(way[0], tuple(columns[column - 1] for column in worker[1]))]
    if name in ("count", "sum"):
        return [(way[0], tuple(columns[column - 1] for column in worker[1]) + (ANY,))]
    if name == "number":
        return [(way[0], columns + (ANY,))]
    if name == "first":
        return [way] if worker[1] else []
    if name == "walk":
        return [(led[0], led[1] + (("is", after),)) for state in states for after, led in moves_done(worker, way, state)]
    return [way]


def meet(worker, one, other):
    many = len(one[0])
    renumbered = tuple(("of", entry[1] + many) if entry[0] == "of" else entry for entry in other[1])
    second = len(one[1]) + worker[2]
    return [(sets, columns[:second - 1] + columns[second:]) for sets, columns in
            same((one[0] + other[0], one[1] + renumbered), worker[1], second)]


def with_cells(ways):
    return [way for way in ways if not any(is_none(told) for told in way[0])]


def the_cell(way, entry):
    """The one cell of a column, in a tuple; () where it has several."""
    if entry[0] == "is":
        return (entry[1],)
    if entry[0] == "of":
        cell = another(way[0][entry[1]], None)
        if another(way[0][entry[1]], cell) is None:
            return (cell,)
    return ()


def within(way, other):
    if len(way[1]) != len(other[1]):
        return False
    for at, (own, wanted) in enumerate(zip(way[1], other[1])):
        if wanted[0] == "is" and the_cell(way, own) != (wanted[1],):
            return False
        if wanted[0] == "of":
            if own[0] == "any" or own[0] == "is" and not has(other[0][wanted[1]], own[1]):
                return False
            if own[0] == "of" and not lies_in(way[0][own[1]], other[0][wanted[1]]):
                return False
            for second in range(at):
                if other[1][second] == wanted and way[1][second] != own:
                    if not the_cell(way, own) or the_cell(way, own) != the_cell(way, way[1][second]):
                        return False
    return True


def all_within(ways, others):
    return all(any(within(way, other) for other in others) for way in with_cells(ways))


def is_way(way, head):
    sets, columns = way
    if any(is_none(told) for told in sets) or len(columns) != len(head):
        return False
    for entry, sort in zip(columns, head):
        if (entry == ANY) != (sort == "t"):
            return False
        if entry[0] == "of" and not (0 <= entry[1] < len(sets) and sets[entry[1]][0] == sort):
            return False
        if entry[0] == "is" and ("w" if isinstance(entry[1], str) else "n") != sort:
            return False
    return True


def takes_all(worker, way, states):
    """Whether the worker takes all cells of the way."""
    kind, value = way[1][worker[1] - 1]
    taken = [[old for old, new in worker[2]]] if worker[0] == "must" else [
        None if (state, None) in [move[:2] for move in worker[3]] else
        [cell for before, cell, after in worker[3] if before == state] for state in states]
    for cells in taken:
        if cells is None:
            continue
        if kind == "is" and value not in cells:
            return False
        if kind == "of":
            rest = way[0][value]
            for cell in cells:
                rest = common(rest, rest_of(just(cell)))
            if not is_none(rest):
                return False
    return True


def worker_holds(worker, place, told):
    ways, states = told[place]
    behind = told[place[:-1] + (place[-1] + 1,)][0]
    if worker[0] == "walk":
        if worker[2] not in states or list(states) != sorted(set(states)):
            return False
        if any(after not in states for state in states for way in ways for after, led in moves_done(worker, way, state)):
            return False
    elif states != ():
        return False
    if worker[0] in ("must", "walk") and not all(takes_all(worker, way, states) for way in ways):
        return False
    if worker[0] not in ("both", "meet"):
        return all(all_within(lead(worker, way, states), behind) for way in ways)
    ends = []
    for side, branch in enumerate(worker[-2:]):
        inner = place + (side,)
        if not all_within(ways, told[inner + (0,)][0]) or not branch_holds(branch, inner, told):
            return False
        ends.append(told[inner + (len(branch),)][0])
    if worker[0] == "both":
        return all_within(ends[0] + ends[1], behind)
    return all(all_within(meet(worker, one, other), behind) for one in ends[0] for other in ends[1])


def branch_holds(pipe, prefix, told):
    for at, worker in enumerate(pipe):
        if not worker_holds(worker, prefix + (at,), told):
            return False
    ways, states = told[prefix + (len(pipe),)]
    return states == ()


def paper_holds(kind, pipe, paper):
    if [place for place, ways, states in paper] != places(pipe):
        return False
    seen = survey(tuple(told_set[0] for told_set in kind), pipe)
    if not all(is_way(way, head) for (place, ways, states), (there, head, loose) in zip(paper, seen) for way in ways):
        return False
    told = {place: (ways, states) for place, ways, states in paper}
    first = (tuple(kind), tuple(("of", at) for at in range(len(kind))))
    if not all_within([first], told[(0,)][0]):
        return False
    return branch_holds(pipe, (), told)
