"""Trees that show that two pipes of keep, cut, turn, must tell the same."""

from rowpipes.sets import common, has, is_none, just, less, lies_in, only

# What comes of the rows of some sets in a pipe, all of them alike: they are
# left out, or told with these columns, each ("of", i), the cell of column i
# of the kind, from 0 on, or ("is", cell). Else ("parts", C, set): they part
# at this column of the kind by this set; or a must can't take them.
OUT = ("out",)
FALLS = ("falls",)

LEAF = ("leaf",)


def parts_by(at, told):
    return ("parts", at + 1, told)


def just_cell(sets, entry):
    """The one cell that a column has in all rows; None where it has several."""
    return entry[1] if entry[0] == "is" else only(sets[entry[1]])


def with_entry(columns, column, entry):
    return columns[:column - 1] + (entry,) + columns[column:]


# A worker told rows that have these columns: the columns behind it, in a
# tuple ("told", columns), or what else comes of the rows.

def go_keep(worker, sets, columns):
    entry = columns[worker[1] - 1]
    if entry[0] == "is":
        return ("told", columns) if has(worker[2], entry[1]) else OUT
    if lies_in(sets[entry[1]], worker[2]):
        return ("told", columns)
    if is_none(common(sets[entry[1]], worker[2])):
        return OUT
    return parts_by(entry[1], worker[2])


def go_cut(worker, sets, columns):
    return ("told", tuple([columns[column - 1] for column in worker[1]]))


def brought(sets, entry, cells):
    """Those of these cells that the column has in some rows."""
    if entry[0] == "is":
        return [cell for cell in cells if cell == entry[1]]
    return [cell for cell in cells if has(sets[entry[1]], cell)]


def go_change(worker, sets, columns):
    entry = columns[worker[1] - 1]
    becomes = dict(worker[2])
    olds = brought(sets, entry, list(becomes))
    if len(olds) == 0:
        return ("told", columns) if worker[0] == "turn" else FALLS
    if just_cell(sets, entry) is None:
        return parts_by(entry[1], just(olds[0]))
    return ("told", with_entry(columns, worker[1], ("is", becomes[olds[0]])))


GOES = {
    "keep": go_keep,
    "cut": go_cut,
    "turn": go_change,
    "must": go_change,
}


def go_through(pipe, sets):
    """What comes of the rows of these sets in the pipe."""
    found = ("told", tuple([("of", at) for at in range(len(sets))]))
    for worker in pipe:
        go = GOES[worker[0]]
        found = go(worker, sets, found[1])
        if found[0] != "told":
            return found
    return found


def are_alike(sets, one, other):
    """Whether columns of two pipes have the same cell in all rows."""
    if one == other:
        return True
    cell = just_cell(sets, one)
    return cell is not None and cell == just_cell(sets, other)


def first_unlike(sets, one, other):
    """The first pair of entries that are not alike in columns told by two pipes, as many; None if all are."""
    for pair in zip(one, other):
        if not are_alike(sets, pair[0], pair[1]):
            return pair
    return None


def leaf_holds(sets, one, other):
    """Whether it is seen at once that both pipes tell the same of the rows of these sets."""
    if any([is_none(told) for told in sets]):
        return True
    ones, others = go_through(one, sets), go_through(other, sets)
    if ones == OUT and others == OUT:
        return True
    if ones[0] != "told" or others[0] != "told" or len(ones[1]) != len(others[1]):
        return False
    return first_unlike(sets, ones[1], others[1]) is None


def with_set(sets, column, told):
    return sets[:column - 1] + (told,) + sets[column:]


def may_split(sets, column, told):
    """Whether the column is there, and the set of its sort."""
    return 1 <= column <= len(sets) and told[0] == sets[column - 1][0]


def split_sets(sets, column, told):
    """The sets of the rows whose cell is in the told one, and those of the others."""
    here = sets[column - 1]
    return (with_set(sets, column, common(here, told)), with_set(sets, column, less(here, told)))


def follows(kind, one, other, tree):
    """Whether the tree holds for the kind and the two pipes of keep, cut, turn, must."""
    # Not recursive: a tree may be deeper than calls may stand within one another.
    waiting = [(tuple(kind), tree)]
    while waiting:
        sets, here = waiting.pop()
        if here == LEAF:
            if not leaf_holds(sets, one, other):
                return False
        elif may_split(sets, here[1], here[2]):
            inside, outside = split_sets(sets, here[1], here[2])
            waiting.append((inside, here[3]))
            waiting.append((outside, here[4]))
        else:
            return False
    return True
