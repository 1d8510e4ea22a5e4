"""The places of a pipe."""

from rowpipes.branches import branches_of


def places(pipe):
    """All places of the pipe in running order, the ends too."""
    found = []
    for at, worker in enumerate(pipe):
        found.append((at,))
        for side, branch in enumerate(branches_of(worker)):
            found.extend([(at, side) + inner for inner in places(branch)])
    found.append((len(pipe),))
    return found


def worker_at(pipe, place):
    """The worker at a place which the pipe has; None where that is an end."""
    if len(place) > 1:
        return worker_at(branches_of(pipe[place[0]])[place[1]], place[2:])
    return pipe[place[0]] if place[0] < len(pipe) else None


def place_behind(place):
    """The place behind the worker at this one."""
    return place[:-1] + (place[-1] + 1,)
