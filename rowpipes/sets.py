"""Sets of cells: what is told of them, and how they are written and read.

Of numbers ("n", spans), of words ("w", True, words) or ("w", False, words).
Spans lie apart and words are sorted, so sets with the same cells are equal.
"""

from rowpipes.cells import LETTERS, is_number, read_number, read_word, sort_of
from rowpipes.errors import NoText


def greater_low(one, other):
    """The greater of two lower ends; None is below all numbers."""
    if one is None or other is None:
        return other if one is None else one
    return max(one, other)


def lesser_high(one, other):
    """The lesser of two upper ends; None is above all numbers."""
    if one is None or other is None:
        return other if one is None else one
    return min(one, other)


def common_spans(ones, others):
    found = []
    for one in ones:
        for other in others:
            low = greater_low(one[0], other[0])
            high = lesser_high(one[1], other[1])
            if low is None or high is None or low <= high:
                found.append((low, high))
    return tuple(found)


def gaps(spans):
    """The spans of all numbers that lie in none of these."""
    if len(spans) == 0:
        return ((None, None),)
    found = []
    if spans[0][0] is not None:
        found.append((None, spans[0][0] - 1))
    for at in range(1, len(spans)):
        found.append((spans[at - 1][1] + 1, spans[at][0] - 1))
    if spans[-1][1] is not None:
        found.append((spans[-1][1] + 1, None))
    return tuple(found)


def common_words(one, other):
    if one[1]:
        return ("w", True, tuple([word for word in one[2] if has(other, word)]))
    if other[1]:
        return ("w", True, tuple([word for word in other[2] if has(one, word)]))
    return ("w", False, tuple(sorted(set(one[2]) | set(other[2]))))


def rest_of(told):
    """All cells of the sort that the set hasn't."""
    if told[0] == "n":
        return ("n", gaps(told[1]))
    return ("w", not told[1], told[2])


def common(one, other):
    """The set of the cells that both have."""
    if one[0] == "n":
        return ("n", common_spans(one[1], other[1]))
    return common_words(one, other)


def either(one, other):
    """The set of the cells that at least one of both has."""
    return rest_of(common(rest_of(one), rest_of(other)))


def less(one, other):
    """The set of the cells that one has and other hasn't."""
    return common(one, rest_of(other))


def just(cell):
    """The set of this one cell."""
    if sort_of(cell) == "n":
        return ("n", ((cell, cell),))
    return ("w", True, (cell,))


def without(told, cells):
    """The set of the cells that told has, but for these."""
    left = told
    for cell in cells:
        left = less(left, just(cell))
    return left


def in_span(span, number):
    low, high = span
    return (low is None or low <= number) and (high is None or number <= high)


def has(told, cell):
    """Whether the cell is in the set; one of the other sort is not."""
    if told[0] == "n":
        return is_number(cell) and any([in_span(span, cell) for span in told[1]])
    return isinstance(cell, str) and (cell in told[2]) == told[1]


def is_none(told):
    """Whether the set has no cell."""
    if told[0] == "n":
        return len(told[1]) == 0
    return told[1] and len(told[2]) == 0


def lies_in(one, other):
    """Whether each cell of one is in other."""
    return is_none(less(one, other))


def some_of_span(span):
    """Two numbers of the span, or one if it has just one."""
    low, high = span
    if low is None and high is None:
        return (0, 1)
    if low is None:
        return (high, high - 1)
    if low == high:
        return (low,)
    return (low, low + 1)


def word_by_number(number):
    """The words a to z for 0 to 25, then aa, ab and so on: unlike ones for unlike numbers."""
    word = ""
    left = number + 1
    while left > 0:
        left, place = divmod(left - 1, len(LETTERS))
        word = LETTERS[place] + word
    return word


def some_besides(words):
    """At least two words that are not among these."""
    # Two more than there are words: at most so many of them can be taken.
    tried = [word_by_number(number) for number in range(len(words) + 2)]
    return [word for word in tried if word not in words]


def some_of(told):
    """Two cells of the set at least, or all if it has fewer."""
    if told[0] == "n":
        return [number for span in told[1] for number in some_of_span(span)]
    if told[1]:
        return list(told[2])
    return some_besides(told[2])


def another(told, cell):
    """A cell of the set other than this one (or than None); None where there is none."""
    for found in some_of(told):
        if found != cell:
            return found
    return None


def only(told):
    """The one cell of the set; None where it has several, or none."""
    cell = another(told, None)
    return cell if another(told, cell) is None else None


def show_end(number):
    return "" if number is None else str(number)


def show_span(span):
    low, high = span
    if low is not None and low == high:
        return str(low)
    return f"{show_end(low)}..{show_end(high)}"


def show_spans(spans):
    if len(spans) == 0:
        return "-"
    return ",".join([show_span(span) for span in spans])


def show_words(just_these, words):
    listed = ",".join(words)
    if just_these:
        return listed if listed else "-"
    return f"*-{listed}" if listed else "*"


def show_set(told):
    """The text of a set."""
    if told[0] == "n":
        return f"n:{show_spans(told[1])}"
    return f"w:{show_words(told[1], told[2])}"


def read_end(text):
    return None if text == "" else read_number(text)


def read_span(text):
    if ".." not in text:
        number = read_number(text)
        return (number, number)
    before, dots, behind = text.partition("..")
    low, high = read_end(before), read_end(behind)
    if low is not None and high is not None and low >= high:
        raise NoText("a span goes from a lesser number to a greater one")
    return (low, high)


def lies_behind(span, earlier):
    """Whether a number lies between the earlier span and this one."""
    if earlier[1] is None or span[0] is None:
        return False
    return earlier[1] + 1 < span[0]


def read_spans(text):
    if text == "-":
        return ()
    spans = [read_span(part) for part in text.split(",")]
    for at in range(1, len(spans)):
        if not lies_behind(spans[at], spans[at - 1]):
            raise NoText("spans rise, with a number between two")
    return tuple(spans)


def read_listed(text):
    words = [read_word(part) for part in text.split(",")]
    if words != sorted(set(words)):
        raise NoText("the words of a set are sorted and unlike")
    return tuple(words)


def read_words(text):
    if text == "-":
        return ("w", True, ())
    if text == "*":
        return ("w", False, ())
    if text.startswith("*-"):
        return ("w", False, read_listed(text[2:]))
    return ("w", True, read_listed(text))


def read_set(text):
    """The set that text, of anything, writes; else NoText."""
    if not isinstance(text, str):
        raise NoText("a set is read from a text")
    if text.startswith("n:"):
        return ("n", read_spans(text[2:]))
    if text.startswith("w:"):
        return read_words(text[2:])
    raise NoText("a set begins with its sort and a colon")
