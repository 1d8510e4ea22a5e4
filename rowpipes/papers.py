"""Papers: what shows that no rows of a kind fall."""

from rowpipes.coming import lead_through
from rowpipes.heads import survey
from rowpipes.kinds import head_of


def bare(way):
    """The way as papers have it: without the rows that bring it, and without sets of which no column is."""
    sets, columns, rows = way
    used = sorted({entry[1] for entry in columns if entry[0] == "of"})
    places_of = {old: new for new, old in enumerate(used)}
    return (
        tuple([sets[old] for old in used]),
        tuple([("of", places_of[entry[1]]) if entry[0] == "of" else entry for entry in columns]),
    )


def paper_of(kind, pipe):
    """The paper of a pipe that is let by: what comes to each place; or NoPipe, Falling, TooMany."""
    survey(head_of(kind), pipe)
    return [
        (place, [bare(way) for way in ways], tuple(sorted(states)))
        for place, ways, states in lead_through(kind, pipe)
    ]
