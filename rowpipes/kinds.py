"""Kinds of rows: a set for each column."""

from rowpipes.cells import WIDEST_ROW
from rowpipes.errors import NoText
from rowpipes.sets import has, read_set, show_set


def is_of(kind, row):
    """Whether the row is as long as the kind, each cell in its set."""
    return len(row) == len(kind) and all([has(told, cell) for told, cell in zip(kind, row)])


def head_of(kind):
    """The tuple of the sorts of the kind's sets."""
    return tuple([told[0] for told in kind])


def show_kind(kind):
    """The text of a kind."""
    return " ".join([show_set(told) for told in kind])


def read_kind(text):
    """The kind that text, of anything, writes; else NoText."""
    if not isinstance(text, str):
        raise NoText("a kind is read from a text")
    parts = text.split(" ")
    if len(parts) > WIDEST_ROW:
        raise NoText("a kind has at most six sets")
    return [read_set(part) for part in parts]
