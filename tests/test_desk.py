"""The desk (point 27)."""

import unittest

from rowpipes.desk import Desk
from rowpipes.errors import Falling, Falls, NoLine, NoPipe, NoText, PipeError, TooMany, Unknown
from test_coming import DOUBLED, times

KIND = "n:1..3 w:a,b"

PIPES = {
    "a": "keep 1 n:2..",
    "b": "sort 1 | keep 1 n:2.. | keep 1 n:..2",
    "c": "all",
    "d": "cut 2 1 | must 2 1=x,2=y,3=x",
    "e": "must 1 1=1,2=2",
    "f": "both (sort 1- | keep 1 n:0..) (first 0) | number",
    "g": "walk 1 p p:1=q,p:2=p,q:*=q",
    "h": "both (all) (both (apart) (must 2 a=a))",
    "i": "sort 1 | keep 1 n:2",
    "j": "keep 1 n:2..3 | keep 2 w:a,b",
    "many": times(DOUBLED, 8),
}

# Rows and what is answered, where just one answer is right.
ANSWERED = (
    ("show a", "keep 1 n:2.."), ("show c", "all"), ("show f", PIPES["f"]), ("show h", PIPES["h"]), ("show many", PIPES["many"]),
    ("head a", "n w"), ("head d", "w w"), ("head f", "n w t"), ("head g", "n w w"),
    ("run a 1 a; 2 b; 3 a", "2 b; 3 a"), ("run a 1 a", "-"), ("run a -", "-"), ("run c -", "-"), ("run c 3 b; 3 b", "3 b; 3 b"),
    # rows of the kind's head, whether they are of the kind or not
    ("run a 7 zzzzzzzz; -7 b", "7 zzzzzzzz"), ("run d 1 a; 2 b", "a x; b y"), ("run f 1 a; 2 b", "2 b 1; 1 a 2"), ("run e -", "-"),
    ("run g 2 a; 1 b; 3 a", "2 a p; 1 b q; 3 a q"), ("run h 1 a", "1 a; 1 a; 1 a"), ("run many -", "-"),
    ("fall a", "none"), ("fall c", "none"), ("fall d", "none"), ("fall f", "none"),
    ("short a", "keep 1 n:2.."), ("short b", "keep 1 n:2 | sort 1"), ("short c", "all"), ("short d", PIPES["d"]),
    ("short f", "sort 1- | number"),
    ("count a", "1 0"), ("count c", "0 0"), ("count f", "5 2"), ("count h", "4 2"), ("count many", "8 8"),
    ("like a a", "alike"), ("like a j", "alike"), ("like j a", "alike"), ("like b i", "steps"), ("like i b", "steps"), ("like b b", "steps"),
    ("like a b", "open"), ("like f i", "open"), ("like c f", "open"), ("like d d", "alike"),
)

# A row, how its answer begins, and the rows that it may tell.
ANSWERED_BY_ROWS = (
    ("fall e", "0: ", ["3 a", "3 b"]),
    ("fall h", "0 1 0 1 0: ", ["1 b", "2 b", "3 b"]),
    ("like a c", "parted ", ["1 a", "1 b"]),
    ("like c a", "parted ", ["1 a", "1 b"]),
    ("like a d", "parted ", ["1 a", "1 b", "2 a", "2 b", "3 a", "3 b"]),
)

NO_LINES = (
    None, 5, True, False, b"show a", ["show", "a"], ("show", "a"), {}, [], (), object(), Desk,
    "", " ", "  ", "-", "a", "all", "show", "show ", " show a", "show  a", "show a ", "show a  ", "show a b", "show a a", "SHOW a", "Show a",
    "shows a", "sho a", "showa", "show A", "show a1", "show 1", "show abcdefghi", "show -", "show a;", "show a,b", "show keep 1 n:2..",
    "kind", "kind ", " kind n:..", "kind  n:..", "kind n:.. ", "kind n:..  n:..", "kinds n:..",
    "pipe", "pipe ", "pipe a", "pipe a ", "pipe  a all", "pipe a  all", "pipe a all ", " pipe a all", "pipe A all", "pipe a1 all", "pipe 1 all",
    "pipe abcdefghi all", "pipe a-b all", "pipe a sort  1", "pipe a sort 1 |  apart", "pipe - all", "pipe (a) all",
    "head", "head a b", "head A", "head  a", "head a ", "run", "run a", "run a ", "run  a 1 a", "run a  1 a", "run a 1 a ", "run a 1  a",
    "run a 1 a;  2 b", "run A 1 a", "run 1 a", "run a1 1 a", "fall", "fall a b", "fall A", "fall a 1", "short", "short a a", "short A",
    "short a ", "count", "count a b", "count A", "count a 1", "like", "like a", "like a ", "like a  b", "like a b c", "like a b ", "like A b",
    "like a B", "like a 1", "like a-b", "quit", "help", "run a; 1 a", "fed a 1 a", "holds a", "show\ta", "show a\n")

# Rows of another head than the kind's.
OTHER_HEADS = (
    "run a 1", "run a a", "run a 1 2", "run a a 1", "run a a b", "run a 1 a 1", "run a 1 a; 2 2", "run a 2 2; 1 a", "run a 1; 2", "run a b a; 1 a",
    "run c 1 a a a a a")

UNKNOWN = (
    "show z", "show show", "head z", "run z 1 a", "run z -", "fall z", "short z", "count z", "like z a", "like a z", "like z z", "like z y",
    "show ok", "show abcdefgh",
    # ahead of what isn't written so, and of what falls or isn't let by
    "run z 01 a", "run z 1 a;2 b", "run z 1 a; 2", "run z A", "like z e", "like e z", "like z many")

NO_TEXTS = (
    "kind x", "kind n", "kind n:", "kind n:3..1", "kind n:1,2", "kind w:b,a", "kind w:A", "kind n:1 x", "kind n:1 n:1 n:1 n:1 n:1 n:1 n:1",
    "kind all", "kind n:..;", "pipe a x", "pipe a keep", "pipe a keep 1", "pipe a keep 1 n:2,1", "pipe a all | all", "pipe a sort 1 |",
    "pipe a | sort 1", "pipe a both (all)", "pipe a both (all) (all", "pipe a first 61", "pipe a cut 13", "pipe new cut 0", "pipe a pipe b all",
    "run a 01 a", "run a 1 a;2 b", "run a 1 a; 2", "run a 1 A", "run a +1 a", "run a -0 a", "run a - -", "run a 1 a; -", "run a 1 abcdefghi",
    "run a 1 a 1 a 1 a 1", "run e 1 a;", "run many 1;2")

NO_PIPES = (
    ("pipe a cut 3", (0,), "column"), ("pipe new apart | keep 1 w:a", (1,), "sort"), ("pipe a both (all) (cut 1)", (0,), "sort"),
    ("pipe new cut 1 1 1 1 1 1 | number", (1,), "wide"), ("pipe a apart | walk 1 p -", (1,), "rows"),
    ("pipe a both (all) (all) | first 1 | must 1 1=1", (2,), "loose"), ("pipe a both (all) (sum of 2)", (0, 1, 0), "sort"))

FALLING = (
    ("run e 1 a; 3 b; 4 a", Falls, (0,), (3, "b")), ("run h 1 a; 1 c", Falls, (0, 1, 0, 1, 0), (1, "c")),
    ("run g 3 a", Falls, (0,), (3, "a")), ("run d 9 a", Falls, (1,), ("a", 9)), ("short e", Falling, (0,), None),
    ("short h", Falling, (0, 1, 0, 1, 0), None), ("short g", Falling, (0,), None), ("like e a", Falling, (0,), None),
    ("like a e", Falling, (0,), None), ("like h e", Falling, (0, 1, 0, 1, 0), None), ("like e h", Falling, (0,), None),
    ("like b g", Falling, (0,), None))


def new_desk():
    desk = Desk()
    desk.say(f"kind {KIND}")
    for name, text in PIPES.items():
        desk.say(f"pipe {name} {text}")
    return desk


class Answered(unittest.TestCase):
    def test_each_sort_of_rows(self):
        desk = new_desk()
        for row, answer in ANSWERED:
            found = desk.say(row)
            self.assertEqual(found, answer, row)
            self.assertIs(type(found), str)

    def test_answers_with_rows(self):
        desk = new_desk()
        for row, begin, rows in ANSWERED_BY_ROWS:
            self.assertIn(desk.say(row), [begin + one for one in rows], row)

    def test_kinds_and_pipes_are_answered_with_ok(self):
        desk = Desk()
        for row in ("kind n:..", "pipe a all", "kind n:-", "kind w:*-a n:..3,5", "pipe abcdefgh cut 2 1", "pipe kind all", "pipe pipe apart",
                    "kind n:1 n:2 n:3 n:4 n:5 n:6"):
            self.assertEqual(desk.say(row), "ok", row)

    def test_rows_that_fall_behind_several(self):
        desk = Desk()
        desk.say("kind n:1..2")
        desk.say("pipe a both (all) (walk 1 p p:1=q,p:2=p,q:2=p | cut 1)")
        self.assertEqual(desk.say("fall a"), "0 1 0: 1; 1")

    def test_the_same_asked_again_is_told_alike(self):
        desk = new_desk()
        for time in range(2):
            for row, answer in ANSWERED:
                self.assertEqual(desk.say(row), answer, row)
            for row, begin, rows in ANSWERED_BY_ROWS:
                self.assertEqual(desk.say(row), desk.say(row))


class Kept(unittest.TestCase):
    def test_a_new_desk(self):
        desk = Desk()
        for name in ("a", "all", "kind"):
            with self.assertRaises(Unknown):
                desk.say(f"show {name}")
        self.assertEqual(desk.say("pipe a keep 1 n:5.. | number"), "ok")
        self.assertEqual(desk.say("head a"), "n t")
        self.assertEqual(desk.say("run a 5; 4; 10000000000"), "5 1; 10000000000 2")
        desk.say("pipe b must 1 5=5")
        self.assertNotEqual(desk.say("fall b"), "none")
        self.assertEqual(desk.say("pipe b keep 1 n:.."), "ok")
        self.assertEqual(desk.say("short b"), "all")
        with self.assertRaises(NoPipe):
            desk.say("pipe c keep 1 w:a")
        with self.assertRaises(NoPipe):
            desk.say("pipe c cut 2")
        with self.assertRaises(NoLine):
            desk.say("run a x")

    def test_a_pipe_told_once_more(self):
        desk = new_desk()
        desk.say("pipe a cut 1")
        self.assertEqual((desk.say("show a"), desk.say("head a"), desk.say("show b")), ("cut 1", "n", PIPES["b"]))
        desk.say("pipe a cut 1")
        self.assertEqual(desk.say("show a"), "cut 1")

    def test_a_kind_lets_all_pipes_go(self):
        for kind in (KIND, "n:..", "n:1..3 w:a,b n:1", "w:-"):
            desk = new_desk()
            self.assertEqual(desk.say(f"kind {kind}"), "ok")
            for name in PIPES:
                with self.assertRaises(Unknown):
                    desk.say(f"show {name}")
            desk.say("pipe a all")
            self.assertEqual(desk.say("head a"), " ".join(part[0] for part in kind.split()))
            with self.assertRaises(Unknown):
                desk.say("like a b")

    def test_two_desks_know_nothing_of_each_other(self):
        one, other = Desk(), Desk()
        one.say("kind w:*")
        one.say("pipe a cut 1 1")
        with self.assertRaises(Unknown):
            other.say("show a")
        other.say("pipe a number")
        self.assertEqual((one.say("show a"), other.say("show a")), ("cut 1 1", "number"))
        self.assertEqual((one.say("run a x"), other.say("run a 1")), ("x x", "1 1"))
        other.say("kind n:..")
        self.assertEqual(one.say("show a"), "cut 1 1")
        with self.assertRaises(Unknown):
            other.say("show a")


class Refused(unittest.TestCase):
    def setUp(self):
        self.desk = new_desk()

    def check_stays(self, row):
        """Whether the desk answers as it did ahead of a row that was refused."""
        for name, text in PIPES.items():
            self.assertEqual(self.desk.say(f"show {name}"), text, row)
        self.assertEqual(self.desk.say("head c"), "n w", row)
        self.assertIn(self.desk.say("fall e"), ("0: 3 a", "0: 3 b"), row)
        for name in ("z", "new"):
            with self.assertRaises(Unknown):
                self.desk.say(f"show {name}")

    def refusal(self, refused, row):
        with self.assertRaises(PipeError, msg=row) as caught:
            self.desk.say(row)
        self.assertIs(type(caught.exception), refused, row)
        self.check_stays(row)
        return caught.exception

    def test_no_lines(self):
        for row in NO_LINES + OTHER_HEADS:
            self.refusal(NoLine, row)

    def test_no_line_is_ahead_of_unknown(self):
        for row in ("run z 1", "run z 1 2", "run z a", "run z 1 a; 2 2", "show z z", "show z ", "like z", "like z B", "run z",
                    "run z  1 a", "count z 1"):
            self.refusal(NoLine, row)

    def test_unknown(self):
        for row in UNKNOWN:
            self.refusal(Unknown, row)

    def test_no_texts(self):
        for row in NO_TEXTS:
            self.refusal(NoText, row)

    def test_no_pipes(self):
        for row, place, why in NO_PIPES:
            found = self.refusal(NoPipe, row)
            self.assertEqual((found.place, found.why), (place, why), row)

    def test_what_falls(self):
        for row, refused, place, there in FALLING:
            found = self.refusal(refused, row)
            self.assertEqual(found.place, place, row)
            if refused is Falls:
                self.assertEqual(found.row, there, row)
            else:
                self.assertTrue(0 < len(found.rows) <= 20 and all(len(one) == 2 for one in found.rows), row)

    def test_too_many(self):
        for row in ("fall many", "short many", "like many a", "like a many", "like many many"):
            self.refusal(TooMany, row)


if __name__ == "__main__":
    unittest.main()
