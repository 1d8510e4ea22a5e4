"""The desk: rows of text told, each answered with a text."""

from rowpipes.alike import compared
from rowpipes.cells import is_word, read_rows, show_rows, sort_of
from rowpipes.coming import first_fall
from rowpipes.errors import NoLine, NoText, Unknown
from rowpipes.heads import head_behind
from rowpipes.kinds import head_of, read_kind
from rowpipes.pipetexts import read_pipe, show_pipe
from rowpipes.running import told
from rowpipes.shorter import counted, shorter

FIRST_KIND = "n:.."


def want(is_right):
    if not is_right:
        raise NoLine("the desk has no such row")


def named(desk, name):
    """The pipe of this name; or Unknown."""
    if name not in desk.pipes:
        raise Unknown("no pipe is called so")
    return desk.pipes[name]


# Of each sort of rows: its answer, by the names and the rest of the row.

def tell_kind(desk, names, rest):
    desk.kind = read_kind(rest)
    desk.pipes = {}
    return "ok"


def tell_pipe(desk, names, rest):
    pipe = read_pipe(rest)
    head_behind(head_of(desk.kind), pipe)
    desk.pipes[names[0]] = pipe
    return "ok"


def answer_show(desk, names, rest):
    return show_pipe(named(desk, names[0]))


def answer_head(desk, names, rest):
    return " ".join(head_behind(head_of(desk.kind), named(desk, names[0])))


def rows_or_none(text):
    try:
        return read_rows(text)
    except NoText:
        return None


def answer_run(desk, names, rest):
    rows = rows_or_none(rest)
    # Rows of another head are refused ahead of an unknown name, a text that writes no rows behind it.
    want(rows is None or all([tuple([sort_of(cell) for cell in row]) == head_of(desk.kind) for row in rows]))
    return show_rows(told(named(desk, names[0]), read_rows(rest)))


def answer_fall(desk, names, rest):
    found = first_fall(desk.kind, named(desk, names[0]))
    if found is None:
        return "none"
    place, rows = found
    numbers = " ".join([str(number) for number in place])
    return f"{numbers}: {show_rows(rows)}"


def answer_short(desk, names, rest):
    return show_pipe(shorter(desk.kind, named(desk, names[0]))[0])


def answer_count(desk, names, rest):
    workers, stores = counted(named(desk, names[0]))
    return f"{workers} {stores}"


def answer_like(desk, names, rest):
    one, other = [named(desk, name) for name in names]
    found = compared(desk.kind, one, other)
    return f"parted {show_rows([found[1]])}" if found[0] == "parted" else found[0]


ANSWERS = {
    "kind": tell_kind,
    "pipe": tell_pipe,
    "show": answer_show,
    "head": answer_head,
    "run": answer_run,
    "fall": answer_fall,
    "short": answer_short,
    "count": answer_count,
    "like": answer_like,
}

# How many names stand behind the first word; one where nothing else is listed.
MANY_NAMES = {
    "kind": 0,
    "like": 2,
}

WITH_REST = ("kind", "pipe", "run")


def words_of(row):
    """The words of a row of text, of anything; NoLine if it is none that begins as one does."""
    want(isinstance(row, str))
    words = row.split(" ")
    # A blank too many makes a word without signs.
    want("" not in words and words[0] in ANSWERS)
    return words


def parts_of(words):
    """The names and the rest of a row; NoLine if it lacks one, or has more."""
    many = 1 + MANY_NAMES.get(words[0], 1)
    names, rest = words[1:many], words[many:]
    want(len(words) >= many and all([is_word(name) for name in names]))
    want((len(rest) > 0) == (words[0] in WITH_REST))
    return (names, " ".join(rest))


class Desk:
    """A kind of rows and pipes by their names."""

    def __init__(self):
        self.kind = read_kind(FIRST_KIND)
        self.pipes = {}

    def say(self, row):
        """The answer to a row of text, of anything; or NoLine, Unknown, NoText, and as the stages refuse."""
        words = words_of(row)
        names, rest = parts_of(words)
        answer = ANSWERS[words[0]]
        return answer(self, names, rest)
