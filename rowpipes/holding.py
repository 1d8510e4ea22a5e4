"""Whether a paper, whoever wrote it, shows that no rows of a kind fall."""

from rowpipes.branches import branches_of
from rowpipes.cells import is_number, is_word, sort_of
from rowpipes.heads import TALLY, survey
from rowpipes.kinds import head_of
from rowpipes.places import place_behind, worker_at
from rowpipes.sets import is_none, lies_behind
from rowpipes.ways import led, lies_within, met, moved, not_taken, not_taken_in, walked, ways_of


# Whether a thing, of anything, has a form. What it holds is compared only
# when its own form is known: True is like 1 for Python, but no whole number.

def is_tuple_of(thing, many):
    return isinstance(thing, tuple) and len(thing) == many


def is_text(thing, text):
    return isinstance(thing, str) and thing == text


def is_word_thing(thing):
    return isinstance(thing, str) and is_word(thing)


def is_cell(thing):
    return is_number(thing) or is_word_thing(thing)


def are_sorted_words(thing):
    if not isinstance(thing, tuple) or not all([is_word_thing(word) for word in thing]):
        return False
    return list(thing) == sorted(set(thing))


def is_span(thing):
    if not is_tuple_of(thing, 2) or not all([end is None or is_number(end) for end in thing]):
        return False
    return thing[0] is None or thing[1] is None or thing[0] <= thing[1]


def are_spans(thing):
    if not isinstance(thing, tuple) or not all([is_span(span) for span in thing]):
        return False
    return all([lies_behind(thing[at], thing[at - 1]) for at in range(1, len(thing))])


def is_set(thing):
    if is_tuple_of(thing, 2):
        return is_text(thing[0], "n") and are_spans(thing[1])
    if is_tuple_of(thing, 3):
        return is_text(thing[0], "w") and isinstance(thing[1], bool) and are_sorted_words(thing[2])
    return False


def is_entry(thing, sets, sort):
    """Whether the thing may stand for a column of this sort, in a way with these sets."""
    if sort == TALLY:
        return is_tuple_of(thing, 1) and is_text(thing[0], "any")
    if not is_tuple_of(thing, 2):
        return False
    if is_text(thing[0], "of"):
        return is_number(thing[1]) and 0 <= thing[1] < len(sets) and sets[thing[1]][0] == sort
    return is_text(thing[0], "is") and is_cell(thing[1]) and sort_of(thing[1]) == sort


def is_way(thing, head):
    if not is_tuple_of(thing, 2) or not isinstance(thing[0], tuple) or not is_tuple_of(thing[1], len(head)):
        return False
    sets, columns = thing
    if not all([is_set(told) and not is_none(told) for told in sets]):
        return False
    return all([is_entry(entry, sets, sort) for entry, sort in zip(columns, head)])


def are_ways(thing, head):
    return isinstance(thing, list) and all([is_way(way, head) for way in thing])


def are_states(thing, worker):
    """Whether the thing may stand for the states at the place of this worker, None at an end."""
    if worker is not None and worker[0] == "walk":
        return are_sorted_words(thing)
    return is_tuple_of(thing, 0)


def is_place(thing, place):
    return is_tuple_of(thing, len(place)) and all([is_number(at) for at in thing]) and thing == place


def is_told_of(thing, pipe, place, head):
    """Whether the thing is what a paper may have of this place."""
    if not is_tuple_of(thing, 3):
        return False
    return is_place(thing[0], place) and are_ways(thing[1], head) and are_states(thing[2], worker_at(pipe, place))


def is_paper(thing, pipe, seen):
    """Whether the thing is a paper of the pipe, of which seen is the survey."""
    if not isinstance(thing, list) or len(thing) != len(seen):
        return False
    return all([is_told_of(part, pipe, place, head) for part, (place, head, loose) in zip(thing, seen)])


# Whether a paper holds. Here it is a dict by place of (ways, states), the ways
# with no rows that bring them.

def opened(paper):
    return {
        place: ([(sets, columns, ()) for sets, columns in ways], states)
        for place, ways, states in paper
    }


def takes_all(worker, ways, states):
    """Whether the worker, a walk in each of these states, takes all cells of these ways."""
    if worker[0] == "must":
        return all([not_taken(worker, way) == [] for way in ways])
    if worker[0] == "walk":
        return all([not_taken_in(worker, state, way) == [] for state in states for way in ways])
    return True


def has_states(worker, ways, states):
    """Whether a walk has among these states its first, and all to which these ways move it; others need none."""
    if worker[0] != "walk":
        return True
    afters = [after for state in states for way in ways for after, step in moved(worker, state, way)]
    return all([state in states for state in [worker[2]] + afters])


def ways_led(worker, told, ends):
    """The ways to which the worker leads those told at its place, or at the ends of its branches."""
    ways, states = told
    if worker[0] == "both":
        return ends[0] + ends[1]
    if worker[0] == "meet":
        return [found for one in ends[0] for other in ends[1] for found in met(worker, one, other)]
    if worker[0] == "walk":
        no_rows = {state: () for state in states}
        return [found for way in ways for found in walked(worker, no_rows, way)]
    return [found for way in ways for found in led(worker, way)]


def leads(worker, place, paper):
    """Pairs (place, ways): where the worker leads ways, and which."""
    branches = branches_of(worker)
    found = [(place + (side, 0), paper[place][0]) for side in range(len(branches))]
    ends = [paper[place + (side, len(branch))][0] for side, branch in enumerate(branches)]
    found.append((place_behind(place), ways_led(worker, paper[place], ends)))
    return found


def lies_in_one(way, others):
    for other in others:
        if lies_within(way, other):
            return True
    return False


def all_lie_in(ways, others):
    for way in ways:
        if not lies_in_one(way, others):
            return False
    return True


def holds_at(worker, place, paper):
    """Whether what the paper has of the worker at this place holds."""
    ways, states = paper[place]
    if not takes_all(worker, ways, states) or not has_states(worker, ways, states):
        return False
    return all([all_lie_in(found, paper[there][0]) for there, found in leads(worker, place, paper)])


def holds(kind, pipe, paper):
    """Whether the paper, of anything, is one of this kind and pipe and holds; or NoPipe."""
    seen = survey(head_of(kind), pipe)
    if not is_paper(paper, pipe, seen):
        return False
    told = opened(paper)
    if not all_lie_in(ways_of(kind), told[(0,)][0]):
        return False
    workers = [(place, worker_at(pipe, place)) for place, head, loose in seen]
    return all([holds_at(worker, place, told) for place, worker in workers if worker is not None])
