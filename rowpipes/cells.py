"""Cells and rows, written and read."""

from rowpipes.errors import NoText

FIGURES = "0123456789"
LETTERS = "abcdefghijklmnopqrstuvwxyz"
LONGEST_WORD = 8
WIDEST_ROW = 6


def is_number(cell):
    return isinstance(cell, int) and not isinstance(cell, bool)


def sort_of(cell):
    """The sort of a cell: "n" or "w"."""
    return "w" if isinstance(cell, str) else "n"


def is_word(text):
    return 1 <= len(text) <= LONGEST_WORD and all([sign in LETTERS for sign in text])


def is_number_text(text):
    """Whether the text is a whole number as one is written."""
    if text == "0":
        return True
    figures = text.removeprefix("-")
    if figures == "" or figures.startswith("0"):
        return False
    # Not isdigit: that takes figures of other scripts too.
    return all([sign in FIGURES for sign in figures])


def read_number(text):
    if not is_number_text(text):
        raise NoText("no whole number is written so")
    return int(text)


def read_word(text):
    if not is_word(text):
        raise NoText("no WORD is written so")
    return text


def read_cell(text):
    if is_word(text):
        return text
    return read_number(text)


def show_cell(cell):
    return str(cell)


def show_row(row):
    return " ".join([show_cell(cell) for cell in row])


def read_row(text):
    cells = [read_cell(part) for part in text.split(" ")]
    if len(cells) > WIDEST_ROW:
        raise NoText("a row has at most six cells")
    return tuple(cells)


def show_rows(rows):
    """The text of rows."""
    if len(rows) == 0:
        return "-"
    return "; ".join([show_row(row) for row in rows])


def read_rows(text):
    """The rows that text, of anything, writes; else NoText."""
    if not isinstance(text, str):
        raise NoText("rows are read from a text")
    if text == "-":
        return []
    rows = [read_row(part) for part in text.split("; ")]
    if any([len(row) != len(rows[0]) for row in rows]):
        raise NoText("rows are all as long")
    return rows
