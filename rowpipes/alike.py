"""Whether two pipes tell the same."""

from rowpipes.coming import lead_through
from rowpipes.errors import TooMany
from rowpipes.heads import survey
from rowpipes.kinds import head_of
from rowpipes.sets import another, is_none
from rowpipes.shorter import shorter
from rowpipes.trees import GOES, LEAF, OUT, first_unlike, go_through, split_sets

MOST_LEAVES = 200


def cells_but(sets, entry, cell):
    """Cells for the set of a column, a dict by place, by which it has another cell than this; None if it can't."""
    if entry[0] == "is":
        return {} if entry[1] != cell else None
    found = another(sets[entry[1]], cell)
    return None if found is None else {entry[1]: found}


def cell_by(entry, chosen):
    return chosen[entry[1]] if entry[0] == "of" else entry[1]


def parting_cells(sets, one, other, some):
    """Cells for the sets of two columns, not alike, by which they have unlike cells; some has one for each set."""
    found = cells_but(sets, one, cell_by(other, some))
    return cells_but(sets, other, cell_by(one, some)) if found is None else found


def row_of(sets, chosen):
    """A row of these sets with the chosen cells, a dict by place; any cells for the others."""
    return tuple([chosen.get(at, another(told, None)) for at, told in enumerate(sets)])


def parting_row(sets, ones, others):
    """A row of these sets of which two pipes tell unlike rows; None if there is none.

    Ones and others are what comes of the rows of these sets in each.
    """
    some = {at: another(told, None) for at, told in enumerate(sets)}
    if ones == OUT or others == OUT:
        return None if ones == others else row_of(sets, some)
    if len(ones[1]) != len(others[1]):
        return row_of(sets, some)
    pair = first_unlike(sets, ones[1], others[1])
    if pair is None:
        return None
    return row_of(sets, parting_cells(sets, pair[0], pair[1], some))


def tree_of(nodes):
    """The tree of nodes, each a leaf, or a split with the numbers of two later ones for its trees."""
    found = {}
    for at in reversed(range(len(nodes))):
        node = nodes[at]
        found[at] = node if node == LEAF else node[:3] + (found[node[3]], found[node[4]])
    return found[0]


def grown(kind, one, other):
    """What is told of two pipes of keep, cut, turn, must: a tree, split where either parts the rows, or a row."""
    # By numbers, not by calls within one another: a tree may be as deep as it has leaves.
    nodes = [LEAF]
    waiting = [(0, tuple(kind))]
    leaves = 0
    while waiting:
        at, sets = waiting.pop()
        ones, others = go_through(one, sets), go_through(other, sets)
        parts = [found for found in (ones, others) if found[0] == "parts"]
        if parts:
            column, told = parts[0][1:]
            inside, outside = split_sets(sets, column, told)
            nodes[at] = ("split", column, told, len(nodes), len(nodes) + 1)
            waiting.extend([(len(nodes), inside), (len(nodes) + 1, outside)])
            nodes.extend([LEAF, LEAF])
            continue
        row = parting_row(sets, ones, others)
        if row is not None:
            return ("parted", row)
        leaves += 1
        if leaves > MOST_LEAVES:
            raise TooMany("the tree has more than two hundred leaves")
    return ("alike", tree_of(nodes))


def by_tree(kind, one, other):
    # No row of such a kind is there to part the pipes.
    if any([is_none(told) for told in kind]):
        return ("alike", LEAF)
    return grown(kind, one, other)


def by_steps(kind, one, other):
    reached, steps = shorter(kind, one)
    other_reached, other_steps = shorter(kind, other)
    return ("steps", steps, other_steps) if reached == other_reached else ("open",)


def is_split_by_trees(pipe):
    return all([worker[0] in GOES for worker in pipe])


def compared(kind, one, other):
    """Whether two pipes tell the same of rows of the kind, with what shows it; or NoPipe, Falling, TooMany."""
    for pipe in (one, other):
        survey(head_of(kind), pipe)
    for pipe in (one, other):
        lead_through(kind, pipe)
    if is_split_by_trees(one) and is_split_by_trees(other):
        return by_tree(kind, one, other)
    return by_steps(kind, one, other)
