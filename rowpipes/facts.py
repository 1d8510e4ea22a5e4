"""Facts at the places of a pipe: (order, most, unlike), known of all rows that come there."""

from rowpipes.branches import branches_of
from rowpipes.heads import look_up, survey
from rowpipes.kinds import head_of

AT_FIRST = ((), None, False)


def order_ahead(order, column):
    """The order up to this column."""
    found = []
    for entry in order:
        if entry[0] == column:
            return tuple(found)
        found.append(entry)
    return tuple(found)


def order_in(order, columns):
    """The order up to the first column that isn't among these, each renumbered to the first place it has there."""
    found = []
    for column, greatest_first in order:
        if column not in columns:
            return tuple(found)
        found.append((columns.index(column) + 1, greatest_first))
    return tuple(found)


def with_other_columns(order, later):
    """The order, then what of the later one has other columns."""
    columns = [column for column, greatest_first in order]
    return order + tuple([entry for entry in later if entry[0] not in columns])


def least(most, many):
    return many if most is None else min(most, many)


# Of each worker: the facts behind it, by those ahead of it, by how many
# columns its rows have, and by those at the ends of its branches.

def behind_test(worker, known, wide, ends):
    order, most, unlike = known
    return (order, most, False)


def behind_cut(worker, known, wide, ends):
    order, most, unlike = known
    all_there = all([column in worker[1] for column in range(1, wide + 1)])
    return (order_in(order, worker[1]), most, unlike and all_there)


def behind_change(worker, known, wide, ends):
    order, most, unlike = known
    return (order_ahead(order, worker[1]), most, False)


def behind_sort(worker, known, wide, ends):
    order, most, unlike = known
    return (with_other_columns(worker[1], order), most, False)


def behind_apart(worker, known, wide, ends):
    order, most, unlike = known
    return (order, most, True)


def behind_tally(worker, known, wide, ends):
    order, most, unlike = known
    return (order_in(order, worker[1]), most, True)


def behind_number(worker, known, wide, ends):
    order, most, unlike = known
    return (order + ((wide + 1, False),), most, True)


def behind_first(worker, known, wide, ends):
    order, most, unlike = known
    return (order, least(most, worker[1]), unlike)


def behind_both(worker, known, wide, ends):
    one, other = ends[0][1], ends[1][1]
    return ((), None if one is None or other is None else one + other, False)


def behind_meet(worker, known, wide, ends):
    one, other = ends[0][1], ends[1][1]
    return (ends[0][0], None if one is None or other is None else one * other, False)


# What isn't listed leaves the facts as they are.
FACTS_BEHIND = {
    "keep": behind_test,
    "same": behind_test,
    "cut": behind_cut,
    "turn": behind_change,
    "must": behind_change,
    "sort": behind_sort,
    "apart": behind_apart,
    "count": behind_tally,
    "sum": behind_tally,
    "number": behind_number,
    "first": behind_first,
    "both": behind_both,
    "meet": behind_meet,
}


def facts_behind(worker, known, wide, ends):
    if worker[0] not in FACTS_BEHIND:
        return known
    behind = FACTS_BEHIND[worker[0]]
    return behind(worker, known, wide, ends)


def follow(pipe, begun, prefix, heads, found):
    """The facts at the pipe's end; puts those of each place into found, a dict."""
    known = begun
    for at, worker in enumerate(pipe):
        place = prefix + (at,)
        found[place] = known
        ends = []
        for side, branch in enumerate(branches_of(worker)):
            ends.append(follow(branch, known, place + (side,), heads, found))
        known = facts_behind(worker, known, len(heads[place]), ends)
    found[prefix + (len(pipe),)] = known
    return known


def all_facts(pipe, seen):
    """A dict by place of the facts of a pipe of which this is the survey."""
    found = {}
    follow(pipe, AT_FIRST, (), {place: head for place, head, loose in seen}, found)
    return found


def facts_at(kind, pipe, place):
    """The facts at the place; or NoPipe, NoPlace."""
    seen = survey(head_of(kind), pipe)
    # For its refusal: the facts of places that are none are asked for too.
    look_up(seen, place)
    return all_facts(pipe, seen)[place]
