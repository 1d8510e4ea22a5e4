"""Sets, what is told of them, and their texts (points 6 and 7)."""

import itertools
import unittest

from rowpipes.errors import NoText
from rowpipes.sets import another, common, either, has, is_none, just, less, lies_in, read_set, show_set, without

NO_TEXTS = (None, 0, True, b"n:..", [], ["n:.."], (), ("n", ()), ("w", True, ()), {}, set(), object(), str)
FAR = 10 ** 60
LOW, HIGH = -3, 3


def numbers_of(flags):
    """The set of some of the numbers from LOW to HIGH; with an outer one goes all that lies beyond it."""
    spans = []
    for number in [LOW + at for at, flag in enumerate(flags) if flag]:
        low = None if number == LOW else number
        high = None if number == HIGH else number
        if spans and spans[-1][1] == number - 1:
            spans[-1] = (spans[-1][0], high)
        else:
            spans.append((low, high))
    return ("n", tuple(spans))


def words_of(flags):
    """The set of some of the words a, b, c; the last one stands for all others."""
    named, others = flags[:3], flags[3]
    return ("w", not others, tuple(word for word, flag in zip("abc", named) if flag != others))


NUMBER_SETS = {flags: numbers_of(flags) for flags in itertools.product((False, True), repeat=HIGH - LOW + 1)}
WORD_SETS = {flags: words_of(flags) for flags in itertools.product((False, True), repeat=4)}
ALL_SETS = list(NUMBER_SETS.values()) + list(WORD_SETS.values())


def is_set(told):
    """Whether this is a set, by the words of point 6."""
    if type(told) is not tuple or not told:
        return False
    if told[0] == "n":
        return len(told) == 2 and are_spans(told[1])
    if told[0] != "w" or len(told) != 3 or type(told[1]) is not bool or type(told[2]) is not tuple:
        return False
    return list(told[2]) == sorted(set(told[2])) and all(
        type(word) is str and word.isascii() and word.isalpha() and word.islower() and len(word) <= 8
        for word in told[2])


def are_spans(spans):
    if type(spans) is not tuple:
        return False
    ends = [end for span in spans for end in span]
    if any(type(end) is not int for end in ends[1:-1]):
        return False
    if any(end is not None and type(end) is not int for end in ends):
        return False
    if any(low is not None and high is not None and low > high for low, high in spans):
        return False
    return all(one[1] + 1 < other[0] for one, other in zip(spans, spans[1:]))


class Sets(unittest.TestCase):
    def each_pair(self):
        for sets in (NUMBER_SETS, WORD_SETS):
            yield from itertools.product(sets.items(), repeat=2)

    def tell(self, sets, flags):
        return (NUMBER_SETS if sets[0] == "n" else WORD_SETS)[flags]

    def test_common_either_less_lies_in(self):
        for (one_flags, one), (other_flags, other) in self.each_pair():
            both = list(zip(one_flags, other_flags))
            self.assertEqual(common(one, other), self.tell(one, tuple(a and b for a, b in both)))
            self.assertEqual(either(one, other), self.tell(one, tuple(a or b for a, b in both)))
            self.assertEqual(less(one, other), self.tell(one, tuple(a and not b for a, b in both)))
            self.assertIs(lies_in(one, other), all(b or not a for a, b in both))

    def test_what_is_told_is_a_set(self):
        for (_, one), (_, other) in self.each_pair():
            self.assertTrue(is_set(common(one, other)) and is_set(either(one, other)) and is_set(less(one, other)))

    def test_has(self):
        for flags, told in NUMBER_SETS.items():
            for number in range(LOW, HIGH + 1):
                self.assertIs(has(told, number), flags[number - LOW])
            self.assertIs(has(told, -FAR), flags[0])
            self.assertIs(has(told, FAR), flags[-1])
            self.assertIs(has(told, "a"), False)
        for flags, told in WORD_SETS.items():
            for at, word in enumerate(("a", "b", "c", "zzzzzzzz")):
                self.assertIs(has(told, word), flags[at])
            self.assertIs(has(told, 1), False)
            self.assertIs(has(told, 0), False)

    def test_is_none(self):
        for flags, told in list(NUMBER_SETS.items()) + list(WORD_SETS.items()):
            self.assertIs(is_none(told), not any(flags))

    def test_another(self):
        cells = [None, "a", "b", "c", "d", "aa", "zzzzzzzz", FAR, -FAR] + list(range(LOW - 2, HIGH + 3))
        for told in ALL_SETS:
            for cell in cells:
                found = another(told, cell)
                if found is None:
                    left = less(told, alone(cell)) if cell is not None and same_sort(told, cell) else told
                    self.assertTrue(is_none(left), (told, cell))
                else:
                    self.assertTrue(has(told, found) and found != cell, (told, cell, found))
                self.assertEqual(another(told, cell), found)


def alone(cell):
    return ("w", True, (cell,)) if isinstance(cell, str) else ("n", ((cell, cell),))


def same_sort(told, cell):
    return told[0] == ("w" if isinstance(cell, str) else "n")


class Edges(unittest.TestCase):
    def test_spans_beside_one_another_become_one(self):
        self.assertEqual(either(("n", ((1, 3),)), ("n", ((4, 6),))), ("n", ((1, 6),)))
        self.assertEqual(either(("n", ((1, 3), (5, 6))), ("n", ((4, 4),))), ("n", ((1, 6),)))
        self.assertEqual(either(("n", ((None, 0),)), ("n", ((1, None),))), ("n", ((None, None),)))
        self.assertEqual(either(("n", ((1, 3),)), ("n", ((5, 6),))), ("n", ((1, 3), (5, 6))))

    def test_what_comes_has_no_cell(self):
        self.assertEqual(common(("n", ((1, 3),)), ("n", ((4, 6),))), ("n", ()))
        self.assertEqual(less(("n", ((None, None),)), ("n", ((None, None),))), ("n", ()))
        self.assertEqual(common(("w", True, ("a",)), ("w", False, ("a",))), ("w", True, ()))
        self.assertEqual(less(("w", False, ()), ("w", False, ())), ("w", True, ()))
        self.assertEqual(either(("n", ()), ("n", ())), ("n", ()))
        self.assertEqual(either(("w", True, ()), ("w", True, ())), ("w", True, ()))

    def test_what_comes_has_all_cells(self):
        self.assertEqual(either(("w", True, ("a",)), ("w", False, ("a",))), ("w", False, ()))
        self.assertEqual(either(("n", ()), ("n", ((None, None),))), ("n", ((None, None),)))
        self.assertEqual(less(("w", False, ()), ("w", True, ())), ("w", False, ()))

    def test_words_taken_out_and_put_in(self):
        self.assertEqual(less(("w", True, ("a", "b", "c")), ("w", True, ("b",))), ("w", True, ("a", "c")))
        self.assertEqual(less(("w", False, ("b",)), ("w", True, ("a", "c"))), ("w", False, ("a", "b", "c")))
        self.assertEqual(less(("w", False, ("b",)), ("w", False, ("a", "b", "c"))), ("w", True, ("a", "c")))
        self.assertEqual(either(("w", True, ("b", "d")), ("w", True, ("a", "c"))), ("w", True, ("a", "b", "c", "d")))

    def test_far_numbers(self):
        told = ("n", ((-FAR, -FAR), (FAR, None)))
        self.assertEqual(less(("n", ((None, None),)), told), ("n", ((None, -FAR - 1), (-FAR + 1, FAR - 1))))
        self.assertTrue(has(told, FAR + 1) and has(told, -FAR))
        self.assertFalse(has(told, FAR - 1) or has(told, -FAR - 1))
        self.assertTrue(has(told, another(told, -FAR)))

    def test_many_spans_and_words(self):
        evens = ("n", tuple((2 * k, 2 * k) for k in range(45)))
        odds = ("n", tuple((2 * k + 1, 2 * k + 1) for k in range(45)))
        self.assertEqual(either(evens, odds), ("n", ((0, 89),)))
        self.assertEqual(common(evens, odds), ("n", ()))
        self.assertEqual(less(("n", ((0, 89),)), odds), evens)
        letters = "abcdefghijklmnopqrstuvwxyz"
        words = tuple(sorted(list(letters) + ["a" + letter for letter in letters]))
        self.assertIsNotNone(another(("w", False, words), "ba"))
        self.assertNotIn(another(("w", False, words), "ba"), words + ("ba",))
        self.assertTrue(is_set(("w", True, (another(("w", False, words), None),))))

    def test_another_of_one_cell_and_of_none(self):
        self.assertIsNone(another(("n", ((5, 5),)), 5))
        self.assertEqual(another(("n", ((5, 5),)), None), 5)
        self.assertEqual(another(("n", ((5, 5),)), "five"), 5)
        self.assertEqual(another(("n", ((5, 5), (7, 7))), 5), 7)
        self.assertEqual(another(("n", ((0, 0),)), None), 0)
        self.assertIsNone(another(("w", True, ("a",)), "a"))
        self.assertEqual(another(("w", True, ("a",)), 1), "a")
        self.assertEqual(another(("w", True, ("a", "b")), "a"), "b")
        self.assertIsNone(another(("n", ()), None))
        self.assertIsNone(another(("w", True, ()), None))


WRITTEN = (
    (("n", ()), "n:-"),
    (("n", ((None, None),)), "n:.."),
    (("n", ((None, -4), (1, 3), (5, 5), (9, None))), "n:..-4,1..3,5,9.."),
    (("n", ((0, 0),)), "n:0"),
    (("n", ((-5, -5),)), "n:-5"),
    (("n", ((-5, -3),)), "n:-5..-3"),
    (("n", ((-1, 0),)), "n:-1..0"),
    (("n", ((None, 0),)), "n:..0"),
    (("n", ((0, None),)), "n:0.."),
    (("n", ((1, 2), (4, 5), (7, 7))), "n:1..2,4..5,7"),
    (("n", ((None, -1), (1, None))), "n:..-1,1.."),
    (("n", ((-FAR + 1, FAR - 1),)), "n:-" + "9" * 60 + ".." + "9" * 60),
    (("w", True, ()), "w:-"),
    (("w", False, ()), "w:*"),
    (("w", True, ("blue",)), "w:blue"),
    (("w", True, ("blue", "red")), "w:blue,red"),
    (("w", False, ("blue",)), "w:*-blue"),
    (("w", False, ("blue", "red")), "w:*-blue,red"),
    (("w", True, ("a", "aa", "ab", "b", "zzzzzzzz")), "w:a,aa,ab,b,zzzzzzzz"),
)

NOT_WRITTEN = (
    "", ":", "n", "w", "n:", "w:", "t:..", "N:..", "W:*", "n..", "x:1", "nn:1", " n:..", "n:.. ", "n: ..", "n :..",
    "n:5,5", "n:5,4", "n:1..3,4", "n:1..3,4..5", "n:1,2", "n:1..3,3..5", "n:1..5,2..3", "n:4..6,1..2", "n:5..5",
    "n:3..1", "n:-3..-5", "n:..,5", "n:5..,7", "n:1,..", "n:1,..3", "n:..1,..3", "n:1..,3..", "n:..,..", "n:...",
    "n:....", "n:1...3", "n:1..2..3", "n:.", "n:1.3", "n:1-3", "n:01", "n:-0", "n:00", "n:+1", "n:1..03", "n:--1",
    "n:-,5", "n:5,-", "n:,", "n:1,", "n:,1", "n:1,,3", "n:1, 3", "n:*", "n:a", "n:*-1", "n:None", "n:1\n",
    "w:red,blue", "w:red,red", "w:*-red,blue", "w:*-red,red", "w:*-", "w:*-*", "w:*--", "w:**", "w:*red", "w:*,red",
    "w:red,*", "w:-red", "w:--", "w:red,", "w:,red", "w:,", "w:blue,,red", "w:blue, red", "w:Red", "w:1", "w:..",
    "w:abcdefghi", "w:*-abcdefghi", "w:a1", "w:red\n", "w:blue red", "n:.. w:*", "n:\u0663", "w:\u00e9", "w:blue;red",
)


class OneCell(unittest.TestCase):
    def test_just_one_cell(self):
        for cell, text in ((0, "n:0"), (-FAR, f"n:-{FAR}"), ("a", "w:a"), ("zzzzzzzz", "w:zzzzzzzz")):
            self.assertEqual(show_set(just(cell)), text)

    def test_without_some_cells(self):
        self.assertEqual(show_set(without(read_set("n:1..5"), [2, 5, 9])), "n:1,3..4")
        self.assertEqual(show_set(without(read_set("n:.."), [0])), "n:..-1,1..")
        self.assertEqual(show_set(without(read_set("w:a,b"), ["b", "c"])), "w:a")
        self.assertEqual(show_set(without(read_set("w:*-a"), ["b"])), "w:*-a,b")
        for text in ("n:-", "n:1..2", "w:*", "w:a"):
            self.assertEqual(show_set(without(read_set(text), [])), text)


class Texts(unittest.TestCase):
    def test_each_form_written_and_read(self):
        for told, text in WRITTEN:
            self.assertEqual(show_set(told), text)
            self.assertEqual(read_set(text), told)

    def test_all_small_sets(self):
        texts = [show_set(told) for told in ALL_SETS]
        self.assertEqual(len(set(texts)), len(ALL_SETS))
        self.assertEqual([read_set(text) for text in texts], ALL_SETS)

    def test_many_spans_and_words(self):
        spans = ("n", tuple((3 * k, 3 * k + 1) for k in range(41)))
        self.assertEqual(read_set(show_set(spans)), spans)
        words = ("w", False, tuple(sorted(a + b for a in "abcdefg" for b in "abcdef")))
        self.assertEqual(read_set(show_set(words)), words)

    def test_other_texts(self):
        for text in NOT_WRITTEN:
            with self.assertRaises(NoText, msg=repr(text)):
                read_set(text)

    def test_no_texts(self):
        for thing in NO_TEXTS:
            with self.assertRaises(NoText, msg=repr(thing)):
                read_set(thing)

    def test_just_what_is_written_is_read_of_all_short_texts(self):
        self.check_all_short("n:", ".,-012", 7, 500)
        self.check_all_short("w:", "ab,*-", 7, 100)

    def check_all_short(self, ahead, signs, most, at_least):
        read = 0
        for many in range(most):
            for body in itertools.product(signs, repeat=many):
                text = ahead + "".join(body)
                try:
                    told = read_set(text)
                except NoText:
                    continue
                self.assertTrue(is_set(told), text)
                self.assertEqual(show_set(told), text)
                read += 1
        self.assertGreater(read, at_least)


if __name__ == "__main__":
    unittest.main()
