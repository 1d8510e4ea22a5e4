"""The places of a pipe."""

from rowpipes.branches import branches_of


def places(pipe):
    """All places of the pipe in running order, the ends too."""
    found = []
    for at, worker in enumerate(pipe):
        found.append((at,))
        for side, branch in enumerate(branches_of(worker)):
            found.extend([(at, side) + inner for inner in places(branch)])
    found.append((len(pipe),))
    return found
