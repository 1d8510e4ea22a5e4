"""Kinds of rows (point 7)."""

import unittest

from rowpipes.errors import NoText
from rowpipes.kinds import head_of, is_of, read_kind, show_kind

ALL_NUMBERS = ("n", ((None, None),))
FEW_NUMBERS = ("n", ((None, -4), (1, 3), (5, 5)))
NO_NUMBERS = ("n", ())
ALL_WORDS = ("w", False, ())
TWO_WORDS = ("w", True, ("blue", "red"))
BUT_TWO = ("w", False, ("blue", "red"))
NO_WORDS = ("w", True, ())
NO_TEXTS = (None, 0, True, b"n:..", [], ["n:.."], [ALL_NUMBERS], (), ("n:..",), {}, set(), object(), str)

WRITTEN = (
    ([ALL_NUMBERS], "n:.."),
    ([ALL_WORDS], "w:*"),
    ([NO_NUMBERS, NO_WORDS], "n:- w:-"),
    ([FEW_NUMBERS, TWO_WORDS], "n:..-4,1..3,5 w:blue,red"),
    ([BUT_TWO, ALL_NUMBERS, BUT_TWO], "w:*-blue,red n:.. w:*-blue,red"),
    ([ALL_NUMBERS] * 4, "n:.. n:.. n:.. n:.."),
    ([ALL_WORDS, FEW_NUMBERS] * 2 + [TWO_WORDS], "w:* n:..-4,1..3,5 w:* n:..-4,1..3,5 w:blue,red"),
    ([ALL_WORDS, NO_NUMBERS, TWO_WORDS, ALL_NUMBERS, NO_WORDS, BUT_TWO], "w:* n:- w:blue,red n:.. w:- w:*-blue,red"),
)

NOT_WRITTEN = (
    "", " ", "-", " n:..", "n:.. ", "n:..  w:*", "n:..\nw:*", "n:..;w:*", "n:..; w:*", "n:..,w:*", "n:..w:*", "n:.. -",
    "n:.. x:1", "n:.. n:2,1", "w:red,blue n:..", "n:1..1 w:*", "n:01", "n", "n w", "all", "n:.. 5", "red", "[n:..]",
    " ".join(["n:.."] * 7), " ".join(["w:*"] * 12), "n:.. n:.. n:.. n:.. n:.. n:.. ",
)


class Rows(unittest.TestCase):
    def test_rows_of_the_kind(self):
        kind = [FEW_NUMBERS, TWO_WORDS]
        for row in ((1, "red"), (-10 ** 60, "blue"), (5, "blue"), (-4, "red")):
            self.assertIs(is_of(kind, row), True, row)

    def test_rows_with_a_cell_that_is_not_in_its_set(self):
        kind = [FEW_NUMBERS, TWO_WORDS]
        for row in ((4, "red"), (1, "green"), (0, "green"), (6, "blue"), (-3, "blue")):
            self.assertIs(is_of(kind, row), False, row)

    def test_rows_with_a_cell_of_the_other_sort(self):
        for kind, row in (([ALL_NUMBERS], ("red",)), ([ALL_WORDS], (1,)), ([BUT_TWO], (0,)),
                          ([ALL_NUMBERS, ALL_WORDS], ("red", 1)), ([ALL_NUMBERS, ALL_WORDS], (1, 1))):
            self.assertIs(is_of(kind, row), False, row)

    def test_rows_too_short_and_too_long(self):
        for many in range(1, 7):
            kind = [ALL_NUMBERS] * many
            for length in range(1, 9):
                self.assertIs(is_of(kind, (7,) * length), length == many)

    def test_each_column_counts(self):
        for many in range(1, 7):
            for wrong in range(many):
                row = tuple("green" if at == wrong else "red" for at in range(many))
                self.assertIs(is_of([TWO_WORDS] * many, row), False)
            self.assertIs(is_of([TWO_WORDS] * many, ("red",) * many), True)

    def test_a_set_without_cells_has_no_row(self):
        self.assertIs(is_of([ALL_NUMBERS, NO_WORDS], (1, "red")), False)
        self.assertIs(is_of([NO_NUMBERS], (0,)), False)

    def test_head(self):
        self.assertEqual(head_of([ALL_NUMBERS]), ("n",))
        self.assertEqual(head_of([NO_WORDS, ALL_NUMBERS, BUT_TWO]), ("w", "n", "w"))
        self.assertEqual(head_of([TWO_WORDS] * 6), ("w",) * 6)
        self.assertIs(type(head_of([ALL_NUMBERS])), tuple)


class Texts(unittest.TestCase):
    def test_written_and_read(self):
        for kind, text in WRITTEN:
            self.assertEqual(show_kind(kind), text)
            self.assertEqual(read_kind(text), kind)

    def test_other_texts(self):
        for text in NOT_WRITTEN:
            with self.assertRaises(NoText, msg=repr(text)):
                read_kind(text)

    def test_no_texts(self):
        for thing in NO_TEXTS:
            with self.assertRaises(NoText, msg=repr(thing)):
                read_kind(thing)

    def test_a_told_kind_is_the_askers_own(self):
        told = read_kind("n:.. w:*")
        self.assertIs(type(told), list)
        told[0] = NO_WORDS
        told.append(NO_NUMBERS)
        self.assertEqual(read_kind("n:.. w:*"), [ALL_NUMBERS, ALL_WORDS])

    def test_what_is_handed_in_stays_and_is_not_kept(self):
        kind = [ALL_NUMBERS, TWO_WORDS]
        for asked in (show_kind, head_of, lambda told: is_of(told, (1, "red"))):
            asked(kind)
            self.assertEqual(kind, [ALL_NUMBERS, TWO_WORDS])
        kind.append(ALL_WORDS)
        self.assertEqual(head_of(kind), ("n", "w", "w"))
        self.assertEqual(show_kind(kind), "n:.. w:blue,red w:*")
        self.assertIs(is_of(kind, (1, "red")), False)


if __name__ == "__main__":
    unittest.main()
