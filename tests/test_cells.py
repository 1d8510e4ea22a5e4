"""Rows written and read (points 2 and 5)."""

import itertools
import unittest

from rowpipes.cells import read_rows, show_rows
from rowpipes.errors import NoText

LONG = int("9" * 60)
NO_TEXTS = (None, 0, 1, True, b"1", b"-", [], ["1"], (), ("1",), {}, {"1": 1}, set(), object(), str, len)

WRITTEN = (
    ([], "-"),
    ([(0,)], "0"),
    ([(-1,)], "-1"),
    ([("a",)], "a"),
    ([("abcdefgh",)], "abcdefgh"),
    ([("zzzzzzzz", "z")], "zzzzzzzz z"),
    ([(1, "red"), (2, "blue")], "1 red; 2 blue"),
    ([(1,), ("red",)], "1; red"),
    ([(10, -20, 100, "none", 0, "all")], "10 -20 100 none 0 all"),
    ([(LONG,), (-LONG,)], "9" * 60 + "; -" + "9" * 60),
    ([(10 ** 59, -(10 ** 59))], "1" + "0" * 59 + " -1" + "0" * 59),
    ([(1,), (1,), (1,)], "1; 1; 1"),
)

NOT_WRITTEN = (
    "", " ", ";", "; ", "--", "-0", "00", "01", "-01", "007", "+1", "1.0", "1.", "1,2", "1e3", "0x1", "1_000",
    " 1", "1 ", "1  2", "1 2 ", " 1 2", "1;2", "1 ;2", "1 ; 2", "1;  2", "1; 2;", "1; 2; ", "; 1", "1; ; 2",
    "1 2; 3", "1; 2 3", "1 2; 3 4; 5", "1; -", "-; 1", "- 1", "-; -", "1 -", "--1", "1-", "1-2", "- ",
    "1~", "~", "a~", "A", "Red", "rED", "a1", "1a", "red_", "re-d", "a.b", "*", "a*", "abcdefghi", "1 abcdefghi",
    "1\n", "\n1", "1\t2", "1\n2", "1 2 3 4 5 6 7", "a b c d e f g; a b c d e f g", "(1)", "'a'", "None", "True",
    "\u00e9", "\u0663", "\u00b2", "1\u00a02", "\uff11",
)


class Written(unittest.TestCase):
    def test_rows_as_text(self):
        for rows, text in WRITTEN:
            self.assertEqual(show_rows(rows), text)

    def test_text_as_rows(self):
        for rows, text in WRITTEN:
            self.assertEqual(read_rows(text), rows)

    def test_what_is_read_is_a_list_of_tuples_of_cells(self):
        rows = read_rows("1 red; -2 blue")
        self.assertIs(type(rows), list)
        self.assertEqual([type(row) for row in rows], [tuple, tuple])
        self.assertEqual([type(cell) for row in rows for cell in row], [int, str, int, str])

    def test_each_length_of_rows_and_of_lists(self):
        for wide in range(1, 7):
            for many in (0, 1, 2, 7, 60, 61):
                rows = [tuple(at * wide + k - 9 if k % 2 else "ab" for k in range(wide)) for at in range(many)]
                text = show_rows(rows)
                self.assertEqual(text, "; ".join(" ".join(map(str, row)) for row in rows) or "-")
                self.assertEqual(read_rows(text), rows)

    def test_numbers_of_each_size(self):
        for many in range(1, 63):
            for number in (int("7" * many), 10 ** many - 1, 10 ** (many - 1)):
                for cell in (number, -number):
                    self.assertEqual(show_rows([(cell, "x")]), f"{cell} x")
                    self.assertEqual(read_rows(f"{cell} x"), [(cell, "x")])

    def test_a_long_text(self):
        rows = [(LONG, -LONG, "abcdefgh", 0)] * 29
        self.assertEqual(read_rows(show_rows(rows)), rows)


class NotWritten(unittest.TestCase):
    def test_other_texts(self):
        for text in NOT_WRITTEN:
            with self.assertRaises(NoText, msg=repr(text)):
                read_rows(text)

    def test_no_texts(self):
        for thing in NO_TEXTS:
            with self.assertRaises(NoText, msg=repr(thing)):
                read_rows(thing)

    def test_a_seventh_cell_and_a_ninth_letter(self):
        self.assertEqual(read_rows("1 2 3 4 5 6"), [(1, 2, 3, 4, 5, 6)])
        self.assertRaises(NoText, read_rows, "1 2 3 4 5 6 7")
        self.assertEqual(read_rows("a" * 8), [("a" * 8,)])
        self.assertRaises(NoText, read_rows, "a" * 9)

    def test_just_what_is_written_is_read_of_all_short_texts(self):
        read = 0
        for many in range(7):
            for signs in itertools.product("01a- ;", repeat=many):
                text = "".join(signs)
                try:
                    rows = read_rows(text)
                except NoText:
                    continue
                self.assertEqual(show_rows(rows), text)
                read += 1
        self.assertGreater(read, 500)


class HandedInAndTold(unittest.TestCase):
    def test_what_is_handed_in_stays(self):
        rows = [(1, "a"), (2, "b")]
        show_rows(rows)
        self.assertEqual(rows, [(1, "a"), (2, "b")])

    def test_a_told_list_is_the_askers_own(self):
        for text, rows in (("1 a; 2 b", [(1, "a"), (2, "b")]), ("-", [])):
            told = read_rows(text)
            told.append((3, "c"))
            told[0] = None
            self.assertEqual(read_rows(text), rows)

    def test_the_same_asked_again_is_told_alike(self):
        rows = [(1, "a"), (2, "b")]
        self.assertEqual(show_rows(rows), show_rows(rows))
        rows.append((3, "c"))
        self.assertEqual(show_rows(rows), "1 a; 2 b; 3 c")


if __name__ == "__main__":
    unittest.main()
