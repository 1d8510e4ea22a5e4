"""Pipes written and read."""

from rowpipes.branches import branch_count, branches_of
from rowpipes.cells import read_cell, read_number, read_word, show_cell
from rowpipes.errors import NoText
from rowpipes.sets import read_set, show_set

LAST_COLUMN = 12
MOST_PAIRS = 8
MOST_MOVES = 16
MOST_COLUMNS = 6
MOST_GROUPED = 5
MOST_FIRST = 60


# Written: of each worker the words behind its name and ahead of its branches.

def no_words(worker):
    return []


def number_words(worker):
    return [str(worker[1])]


def two_column_words(worker):
    return [str(worker[1]), str(worker[2])]


def listed_column_words(worker):
    return [str(column) for column in worker[1]]


def keep_words(worker):
    return [str(worker[1]), show_set(worker[2])]


def pairs_words(worker):
    pairs = [f"{show_cell(old)}={show_cell(new)}" for old, new in worker[2]]
    return [str(worker[1]), ",".join(pairs)]


def show_move(move):
    state, cell, after = move
    shown = "*" if cell is None else show_cell(cell)
    return f"{state}:{shown}={after}"


def walk_words(worker):
    moves = ",".join([show_move(move) for move in worker[3]])
    return [str(worker[1]), worker[2], moves if moves else "-"]


def sort_words(worker):
    return [f"{column}-" if greatest_first else str(column) for column, greatest_first in worker[1]]


def sum_words(worker):
    return listed_column_words(worker) + ["of", str(worker[2])]


WORDS_OF = {
    "keep": keep_words,
    "same": two_column_words,
    "cut": listed_column_words,
    "turn": pairs_words,
    "must": pairs_words,
    "walk": walk_words,
    "sort": sort_words,
    "apart": no_words,
    "count": listed_column_words,
    "sum": sum_words,
    "number": no_words,
    "first": number_words,
    "both": no_words,
    "meet": two_column_words,
}


def show_worker(worker):
    words_of = WORDS_OF[worker[0]]
    branches = [f"({show_pipe(branch)})" for branch in branches_of(worker)]
    return " ".join([worker[0]] + words_of(worker) + branches)


def show_pipe(pipe):
    """The text of a pipe."""
    if len(pipe) == 0:
        return "all"
    return " | ".join([show_worker(worker) for worker in pipe])


# Read: of each worker the values behind its name and ahead of its branches.

def want(is_right):
    if not is_right:
        raise NoText("no pipe is written so")


def read_column(text):
    column = read_number(text)
    want(1 <= column <= LAST_COLUMN)
    return column


def read_columns(words):
    return tuple([read_column(word) for word in words])


def read_nothing(words):
    want(len(words) == 0)
    return ()


def read_first(words):
    want(len(words) == 1)
    many = read_number(words[0])
    want(0 <= many <= MOST_FIRST)
    return (many,)


def read_two_columns(words):
    want(len(words) == 2)
    return read_columns(words)


def read_cut(words):
    want(1 <= len(words) <= MOST_COLUMNS)
    return (read_columns(words),)


def read_count(words):
    want(len(words) <= MOST_GROUPED)
    return (read_columns(words),)


def read_sum(words):
    want(len(words) >= 2 and words[-2] == "of")
    return read_count(words[:-2]) + (read_column(words[-1]),)


def read_keep(words):
    want(len(words) == 2)
    return (read_column(words[0]), read_set(words[1]))


def read_pair(text):
    old, sign, new = text.partition("=")
    return (read_cell(old), read_cell(new))


def read_pairs(words):
    want(len(words) == 2)
    pairs = [read_pair(part) for part in words[1].split(",")]
    want(len(pairs) <= MOST_PAIRS)
    want(len({old for old, new in pairs}) == len(pairs))
    return (read_column(words[0]), tuple(pairs))


def read_move(text):
    state, colon, rest = text.partition(":")
    cell, sign, after = rest.partition("=")
    return (read_word(state), None if cell == "*" else read_cell(cell), read_word(after))


def read_moves(text):
    if text == "-":
        return ()
    moves = [read_move(part) for part in text.split(",")]
    want(len(moves) <= MOST_MOVES)
    want(len({(state, cell) for state, cell, after in moves}) == len(moves))
    return tuple(moves)


def read_walk(words):
    want(len(words) == 3)
    return (read_column(words[0]), read_word(words[1]), read_moves(words[2]))


def read_sort_column(word):
    if word.endswith("-"):
        return (read_column(word[:-1]), True)
    return (read_column(word), False)


def read_sort(words):
    want(1 <= len(words) <= MOST_COLUMNS)
    columns = [read_sort_column(word) for word in words]
    want(len({column for column, greatest_first in columns}) == len(columns))
    return (tuple(columns),)


READERS = {
    "keep": read_keep,
    "same": read_two_columns,
    "cut": read_cut,
    "turn": read_pairs,
    "must": read_pairs,
    "walk": read_walk,
    "sort": read_sort,
    "apart": read_nothing,
    "count": read_count,
    "sum": read_sum,
    "number": read_nothing,
    "first": read_first,
    "both": read_nothing,
    "meet": read_two_columns,
}


def read_worker(parts):
    """The worker of these parts: words as texts, branches as pipes."""
    words = [part for part in parts if isinstance(part, str)]
    branches = [part for part in parts if isinstance(part, tuple)]
    want(parts == words + branches)
    want(len(words) > 0 and words[0] in READERS)
    name = words[0]
    want(len(branches) == branch_count(name))
    reader = READERS[name]
    return (name,) + reader(words[1:]) + tuple(branches)


def read_parts(parts):
    """The pipe of these parts: words as texts, branches as pipes."""
    if parts == ["all"]:
        return ()
    workers = [[]]
    for part in parts:
        if part == "|":
            workers.append([])
        else:
            workers[-1].append(part)
    return tuple([read_worker(worker) for worker in workers])


def read_pipe(text):
    """The pipe that text, of anything, writes; else NoText.

    Not recursive: a text may have more brackets within one another than
    calls may stand within one another.
    """
    if not isinstance(text, str):
        raise NoText("a pipe is read from a text")
    begun = [[]]
    for word in text.split(" "):
        bare = word.removeprefix("(")
        if bare != word:
            begun.append([])
        inner = bare.rstrip(")")
        begun[-1].append(inner)
        for closing in range(len(bare) - len(inner)):
            want(len(begun) > 1)
            branch = read_parts(begun.pop())
            begun[-1].append(branch)
    want(len(begun) == 1)
    return read_parts(begun[0])
