"""Steps that make a pipe shorter, or shift its tests ahead, and leave what it tells as it was."""

from rowpipes.branches import branches_of
from rowpipes.coming import lead_through
from rowpipes.errors import NoPipe, NoStep
from rowpipes.facts import all_facts, with_other_columns
from rowpipes.heads import survey
from rowpipes.kinds import head_of
from rowpipes.places import place_behind, worker_at
from rowpipes.sets import common, has, is_none, lies_in, rest_of
from rowpipes.ways import are_one


# Gone: whether a worker does nothing. Here is (head, facts, ways), what is known at its place.

def all_cells_in(way, column, wanted):
    """Whether all cells that the way brings in this column are in the set."""
    entry = way[1][column - 1]
    if entry[0] == "of":
        return lies_in(way[0][entry[1]], wanted)
    if entry[0] == "is":
        return has(wanted, entry[1])
    # A tally may be any number.
    return is_none(rest_of(wanted))


def brings(way, column, cell):
    entry = way[1][column - 1]
    return has(way[0][entry[1]], cell) if entry[0] == "of" else entry[1] == cell


def keep_idle(worker, here):
    return all([all_cells_in(way, worker[1], worker[2]) for way in here[2]])


def same_idle(worker, here):
    return all([are_one(way, way[1][worker[1] - 1], way[1][worker[2] - 1]) for way in here[2]])


def change_idle(worker, here):
    changed = [old for old, new in worker[2] if old != new]
    return not any([brings(way, worker[1], old) for old in changed for way in here[2]])


def cut_idle(worker, here):
    return worker[1] == tuple(range(1, len(here[0]) + 1))


def at_most(here, many):
    most = here[1][1]
    return most is not None and most <= many


def sort_idle(worker, here):
    return here[1][0][:len(worker[1])] == worker[1] or at_most(here, 1)


def apart_idle(worker, here):
    return here[1][2] or at_most(here, 1)


def first_idle(worker, here):
    return at_most(here, worker[1])


IDLE = {
    "keep": keep_idle,
    "same": same_idle,
    "cut": cut_idle,
    "turn": change_idle,
    "must": change_idle,
    "sort": sort_idle,
    "apart": apart_idle,
    "first": first_idle,
}


# Joined: the one worker that two of one name, one behind another, become; None where they don't.

def join_keeps(worker, following):
    if worker[1] != following[1]:
        return None
    return ("keep", worker[1], common(worker[2], following[2]))


def join_cuts(worker, following):
    return ("cut", tuple([worker[1][column - 1] for column in following[1]]))


def join_sorts(worker, following):
    return ("sort", with_other_columns(following[1], worker[1]))


def join_aparts(worker, following):
    return worker


def join_firsts(worker, following):
    return ("first", min(worker[1], following[1]))


JOINS = {
    "keep": join_keeps,
    "cut": join_cuts,
    "sort": join_sorts,
    "apart": join_aparts,
    "first": join_firsts,
}


# Moved: a keep or same as it stands ahead of the worker that it stood behind; None where it can't.

def columns_tested(test):
    return test[1:2] if test[0] == "keep" else test[1:3]


def tested_ahead(worker, test):
    if worker[0] == "sort":
        return test
    columns = columns_tested(test)
    if worker[0] == "cut":
        anew = tuple([worker[1][column - 1] for column in columns])
        return test[:1] + anew + test[1 + len(columns):]
    return None if worker[1] in columns else test


# Of each rule: a tuple (many, workers), so many workers from the place on
# become these; None where the step can't be done. Following is the next
# worker of the branch, None if there is none; ends are the ways at the ends
# of the worker's own branches.

def step_gone(worker, here, following, ends):
    if worker[0] not in IDLE:
        return None
    is_idle = IDLE[worker[0]]
    return (1, ()) if is_idle(worker, here) else None


def step_joined(worker, here, following, ends):
    if following is None or worker[0] != following[0] or worker[0] not in JOINS:
        return None
    join_two = JOINS[worker[0]]
    joined = join_two(worker, following)
    return None if joined is None else (2, (joined,))


def step_moved(worker, here, following, ends):
    if worker[0] not in ("sort", "cut", "turn", "must") or following is None or following[0] not in ("keep", "same"):
        return None
    test = tested_ahead(worker, following)
    return None if test is None else (2, (test, worker))


def step_single(worker, here, following, ends):
    if worker[0] != "both":
        return None
    if ends[1] == []:
        return (1, worker[1])
    return (1, worker[2]) if ends[0] == [] else None


STEPS = {
    "gone": step_gone,
    "single": step_single,
    "joined": step_joined,
    "moved": step_moved,
}


def with_branch(worker, side, branch):
    branches = list(branches_of(worker))
    branches[side] = branch
    return worker[:-len(branches)] + tuple(branches)


def with_workers(pipe, place, many, workers):
    """The pipe in which so many workers from the place on are exchanged for these."""
    at = place[0]
    if len(place) == 1:
        return pipe[:at] + workers + pipe[at + many:]
    branch = with_workers(branches_of(pipe[at])[place[1]], place[2:], many, workers)
    return pipe[:at] + (with_branch(pipe[at], place[1], branch),) + pipe[at + 1:]


def looked_at(kind, pipe):
    """A dict by place of (head, facts, ways) for a pipe that is let by; or NoPipe, Falling, TooMany."""
    seen = survey(head_of(kind), pipe)
    facts = all_facts(pipe, seen)
    ways_at = {place: ways for place, ways, states in lead_through(kind, pipe)}
    return {place: (head, facts[place], ways_at[place]) for place, head, loose in seen}


def is_put_together(head, pipe):
    try:
        survey(head, pipe)
    except NoPipe:
        return False
    return True


def done(kind, pipe, known, step):
    """The pipe to which a step leads, known being what was looked at; None where it can't be done."""
    rule, place = step
    if rule not in STEPS or place not in known:
        return None
    worker = worker_at(pipe, place)
    if worker is None:
        return None
    following = worker_at(pipe, place_behind(place))
    ends = [known[place + (side, len(branch))][2] for side, branch in enumerate(branches_of(worker))]
    exchange = STEPS[rule]
    exchanged = exchange(worker, known[place], following, ends)
    if exchanged is None:
        return None
    found = with_workers(pipe, place, exchanged[0], exchanged[1])
    return found if is_put_together(head_of(kind), found) else None


def stepped(kind, pipe, step):
    """The pipe to which the step leads; or NoPipe, Falling, TooMany, NoStep."""
    found = done(kind, pipe, looked_at(kind, pipe), step)
    if found is None:
        raise NoStep("no such step can be done at this pipe")
    return found
