"""Whether a tree holds, looked at as point 25 says it, word by word and cell by cell, beside the program.

Of endless sets the cells of a small stock are looked at; pipes and trees of
the tests speak of no cells near its ends.
"""

from rowpipes.sets import has

STOCK = tuple(range(-4, 14)) + ("a", "b", "c", "d", "x", "y", "z")


def cells_of(told):
    return [cell for cell in STOCK if has(told, cell)]


def come(pipe, cells):
    """"out", None where it is not seen what comes, or the columns behind: a source column, or None, with the cells."""
    columns = [(at, there) for at, there in enumerate(cells)]
    for name, where, *rest in pipe:
        if name == "cut":
            columns = [columns[column - 1] for column in where]
            continue
        source, there = columns[where - 1]
        if name == "keep":
            left = [cell for cell in there if has(rest[0], cell)]
            if not left:
                return "out"
            if left != there:
                return None
            continue
        becomes = dict(rest[0])
        if len(there) == 1 and there[0] in becomes:
            columns[where - 1] = (None, [becomes[there[0]]])
        elif name == "must" or any(cell in becomes for cell in there):
            return None
    return columns


def leaf_holds(cells, one, other):
    if not all(cells):
        return True
    ones, others = come(one, cells), come(other, cells)
    if ones is None or others is None:
        return False
    if ones == "out" or others == "out":
        return ones == others
    if len(ones) != len(others):
        return False
    for (source, there), (other_source, other_there) in zip(ones, others):
        same_source = source is not None and source == other_source
        if not same_source and not (len(there) == 1 and there == other_there):
            return False
    return True


def holds_for(cells, one, other, tree):
    if tree == ("leaf",):
        return leaf_holds(cells, one, other)
    name, column, told, inside, outside = tree
    here = cells[column - 1]
    parts = [cell for cell in here if has(told, cell)], [cell for cell in here if not has(told, cell)]
    return all(holds_for(cells[:column - 1] + [part] + cells[column:], one, other, branch)
               for part, branch in zip(parts, (inside, outside)))


def tree_holds(kind, one, other, tree):
    return holds_for([cells_of(told) for told in kind], one, other, tree)


def leaves(tree):
    return 1 if tree == ("leaf",) else leaves(tree[3]) + leaves(tree[4])


def parts(kind, pipes):
    """The parts into which the sets and the a's cut the columns of the kind, multiplied."""
    tests = [[] for told in kind]
    for pipe in pipes:
        sources = list(range(len(kind)))
        for name, where, *rest in pipe:
            if name == "cut":
                sources = [sources[column - 1] for column in where]
            else:
                tests[sources[where - 1]] += [rest[0]] if name == "keep" else [old for old, new in rest[0]]
    many = 1
    for told, listed in zip(kind, tests):
        marks = {tuple(has(test, cell) if isinstance(test, tuple) else test == cell for test in listed) for cell in cells_of(told)}
        many *= len(marks)
    return many
