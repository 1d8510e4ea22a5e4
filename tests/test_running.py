"""Pipes run over rows (points 8 and 12)."""

import random
import unittest

from rowpipes.cells import read_rows, show_rows
from rowpipes.errors import Falls
from rowpipes.pipetexts import read_pipe
from rowpipes.running import told
from samples import cases, cells_of, lists_of

LONG = 10 ** 60 - 1

# Pipe, rows, rows told.
RUNS = (
    ("all", "-", "-"),
    ("all", "1 a; 1 a; 0 b", "1 a; 1 a; 0 b"),
    # keep, same, cut
    ("keep 1 n:2..4,9", "-", "-"),
    ("keep 1 n:2..4,9", "1; 2; 3; 4; 5; 9; 2; -2; 10", "2; 3; 4; 9; 2"),
    ("keep 2 w:a,b", "1 a; 2 c; 1 a; 3 b; 4 aa", "1 a; 1 a; 3 b"),
    ("keep 2 w:*-a", "1 a; 2 c; 2 c; 3 aa", "2 c; 2 c; 3 aa"),
    ("keep 1 n:-", "1; 2", "-"),
    ("keep 1 w:*", "a; zzzzzzzz", "a; zzzzzzzz"),
    ("same 1 2", "1 1; 1 2; 2 1; 2 2; 1 1", "1 1; 2 2; 1 1"),
    ("same 3 1", "a 1 a; a 1 b; zzzzzzzz 1 zzzzzzzz", "a 1 a; zzzzzzzz 1 zzzzzzzz"),
    ("same 2 2", "1 5; 2 6", "1 5; 2 6"),
    ("same 1 2", "-", "-"),
    ("cut 2", "1 a; 2 b; 3 a", "a; b; a"),
    ("cut 2 1 2", "1 a; 2 b", "a 1 a; b 2 b"),
    ("cut 1 1 1 1 1 1", "7", "7 7 7 7 7 7"),
    ("cut 6 5 4 3 2 1", "1 2 3 4 5 6", "6 5 4 3 2 1"),
    ("cut 1", "-", "-"),
    # turn, must
    ("turn 1 1=2,2=3", "1; 2; 3; 0; 1", "2; 3; 3; 0; 2"),
    ("turn 2 a=b,b=a,c=c", "1 a; 1 b; 1 c; 1 d", "1 b; 1 a; 1 c; 1 d"),
    ("turn 1 1=1", "-", "-"),
    ("must 1 1=2,2=1", "1; 2; 2; 1", "2; 1; 1; 2"),
    ("must 2 1=a,2=b,-3=a", "9 1 9; 9 2 9; 9 -3 9; 9 1 8", "9 a 9; 9 b 9; 9 a 9; 9 a 8"),
    ("must 1 a=1", "a b", "1 b"),
    ("must 1 a=1", "-", "-"),
    # walk
    ("walk 1 off off:1=on,on:1=off,off:*=off,on:*=on", "1; 0; 1; 1; 5", "1 on; 0 on; 1 off; 1 on; 5 on"),
    ("walk 2 a a:*=b,b:x=a,b:*=c,c:x=c", "1 y; 1 y; 1 x; 1 x", "1 y b; 1 y c; 1 x c; 1 x c"),
    ("walk 1 a a:1=b,b:2=a", "1; 2; 1; 2", "1 b; 2 a; 1 b; 2 a"),
    ("walk 1 a a:a=b,b:b=a", "a; b; a", "a b; b a; a b"),
    ("walk 1 a a:5=a,a:*=a", "5; 6", "5 a; 6 a"),
    ("walk 1 a -", "-", "-"),
    ("walk 1 a b:1=a", "-", "-"),
    # sort
    ("sort 1", "3; 1; 2; 1; -5", "-5; 1; 1; 2; 3"),
    ("sort 1-", "3; 1; 2; 1; -5", "3; 2; 1; 1; -5"),
    ("sort 1", "b; a; aa; zzzzzzzz; z", "a; aa; b; z; zzzzzzzz"),
    ("sort 1", "10; 9; 100", "9; 10; 100"),
    ("sort 1", "2 x; 1 y; 2 a; 1 b", "1 y; 1 b; 2 x; 2 a"),
    ("sort 1-", "2 x; 1 y; 2 a; 1 b", "2 x; 2 a; 1 y; 1 b"),
    ("sort 1 2", "2 x; 1 y; 2 a; 1 b", "1 b; 1 y; 2 a; 2 x"),
    ("sort 1- 2", "2 x; 1 y; 2 a; 1 b", "2 a; 2 x; 1 b; 1 y"),
    ("sort 1 2-", "2 x; 1 y; 2 a; 1 b", "1 y; 1 b; 2 x; 2 a"),
    ("sort 2 1-", "1 a 1; 2 a 2; 1 b 3; 2 a 4; 1 a 5", "2 a 2; 2 a 4; 1 a 1; 1 a 5; 1 b 3"),
    ("sort 2- 1-", "1 a 1; 2 a 2; 1 b 3; 2 a 4; 1 a 5", "1 b 3; 2 a 2; 2 a 4; 1 a 1; 1 a 5"),
    ("sort 1", "-", "-"),
    ("sort 1", "5", "5"),
    # apart, count, sum, number, first
    ("apart", "1; 1; 2; 1; 1; 1; 2; 2", "1; 2; 1; 2"),
    ("apart", "1 a; 1 b; 1 b; 2 b", "1 a; 1 b; 2 b"),
    ("apart", "-", "-"),
    ("apart", "1", "1"),
    ("count", "-", "-"),
    ("count", "1", "1"),
    ("count", "1; 2; 2", "3"),
    ("count 1", "1; 1; 2; 1", "1 2; 2 1; 1 1"),
    ("count 1", "-", "-"),
    ("count 2 1", "1 a 5; 1 a 6; 2 a 5; 2 b 5; 2 b 5; 2 b 5", "a 1 2; a 2 1; b 2 3"),
    ("count 2 2", "1 a; 2 a; 3 b", "a a 2; b b 1"),
    ("sum of 1", "-", "-"),
    ("sum of 1", "1; 2; -5", "-2"),
    ("sum of 1", "7", "7"),
    ("sum 1 of 2", "a 1; a 2; b 3; a 4; a -4", "a 3; b 3; a 0"),
    ("sum 1 of 1", "2; 2; 3", "2 4; 3 3"),
    ("sum 3 2 of 1", "1 a b; 2 a b; 3 a c", "b a 3; c a 3"),
    ("number", "-", "-"),
    ("number", "a; a; b", "a 1; a 2; b 3"),
    ("number | number", "7; 6", "7 1 1; 6 2 2"),
    ("first 0", "1; 2", "-"),
    ("first 1", "1; 2", "1"),
    ("first 2", "1; 2", "1; 2"),
    ("first 60", "1; 2", "1; 2"),
    ("first 3", "-", "-"),
    ("first 2", "3; 3; 3", "3; 3"),
    # both
    ("both (all) (all)", "-", "-"),
    ("both (all) (all)", "2; 1", "2; 1; 2; 1"),
    ("both (keep 1 n:1) (keep 1 n:2)", "2; 1; 2; 1", "1; 1; 2; 2"),
    ("both (sort 1) (first 1 | turn 1 2=9)", "2; 1", "1; 2; 9"),
    ("both (first 0) (count)", "2; 1", "2"),
    ("both (number) (number)", "4; 5", "4 1; 5 2; 4 1; 5 2"),
    ("both (both (all) (turn 1 1=2)) (both (count) (sum of 1)) | number",
     "1; 3", "1 1; 3 2; 2 3; 3 4; 2 5; 4 6"),
    ("both (walk 1 a a:*=b,b:*=a) (walk 1 b a:*=b,b:*=a)", "1; 1", "1 b; 1 a; 1 a; 1 b"),
    # meet: none, one, many
    ("meet 1 1 (all) (all)", "-", "-"),
    ("meet 1 1 (all) (all)", "1; 2", "1; 2"),
    ("meet 1 1 (all) (all)", "1; 1", "1; 1; 1; 1"),
    ("meet 1 2 (all) (all)", "1 2; 3 4", "-"),
    ("meet 1 2 (all) (all)", "1 2; 2 5", "2 5 1"),
    ("meet 1 2 (all) (all)", "1 1; 2 1", "1 1 1; 1 1 2"),
    ("meet 2 1 (all) (all)", "1 1; 2 1", "1 1 1; 2 1 1"),
    ("meet 1 1 (all) (all)", "a 1 x; b 2 y; a 3 z",
     "a 1 x 1 x; a 1 x 3 z; b 2 y 2 y; a 3 z 1 x; a 3 z 3 z"),
    ("meet 1 2 (cut 1) (cut 2 1 2)", "1 x; 2 y; 1 z", "1 x x; 1 z z; 2 y y; 1 x x; 1 z z"),
    ("meet 1 1 (keep 1 n:1) (keep 1 n:2)", "1; 2", "-"),
    ("meet 2 1 (all) (cut 2 1)", "1 k; 2 k", "1 k 1; 1 k 2; 2 k 1; 2 k 2"),
    ("meet 1 1 (must 1 1=a,2=b) (cut 2)", "1 b; 2 a", "a b; b a"),
    # one behind another
    ("sort 1 | count 1 | sort 2- 1 | first 1", "b; a; b; c", "b 2"),
    ("keep 2 n:1.. | sum 1 of 2 | number | cut 3 1 2", "x 1; x 0; x 2; y 5", "1 x 3; 2 y 5"),
    ("number | sort 2- | cut 1", "a; b; c", "c; b; a"),
    ("first 2 | number | first 1", "a; b", "a 1"),
)

NUMBERS_OF_SIXTY = (
    ("keep 1 n:1..", [(LONG,), (-LONG,)], [(LONG,)]),
    ("same 1 2", [(LONG, LONG), (LONG, LONG - 1)], [(LONG, LONG)]),
    ("sort 1", [(LONG,), (-LONG,), (LONG - 1,), (0,)], [(-LONG,), (0,), (LONG - 1,), (LONG,)]),
    ("sum of 1", [(LONG,), (LONG,)], [(2 * LONG,)]),
    ("sum 1 of 1", [(LONG,)] * 60, [(LONG, 60 * LONG)]),
    ("count 1", [(LONG,), (LONG - 1,)], [(LONG, 1), (LONG - 1, 1)]),
    ("apart", [(LONG,), (LONG - 1,), (LONG - 1,)], [(LONG,), (LONG - 1,)]),
    ("count", [("zzzzzzzz",)] * 60, [(60,)]),
    ("first 60", [(1,)] * 60, [(1,)] * 60),
    ("first 59", [(1,)] * 60, [(1,)] * 59),
    ("number", [("zzzzzzzz",)] * 60, [("zzzzzzzz", at) for at in range(1, 61)]),
    ("meet 1 1 (all) (all)", [(LONG,), (LONG - 1,)], [(LONG,), (LONG - 1,)]),
)

# Pipe, rows, place and row of the fall.
FALLS = (
    ("must 1 1=1", "2", (0,), (2,)),
    ("must 1 1=1", "1; 3; 2", (0,), (3,)),
    ("must 2 a=b", "1 a; 1 b; 2 b", (0,), (1, "b")),
    ("must 1 1=2,2=2 | must 1 1=2", "1; 2", (1,), (2,)),
    ("turn 1 1=5 | must 1 1=1", "1; 2", (1,), (5,)),
    ("keep 1 n:2.. | must 1 1=1", "1; 2", (1,), (2,)),
    ("cut 2 1 | must 1 a=a", "1 b", (1,), ("b", 1)),
    ("sort 1 | must 1 1=1", "3; 1; 2", (1,), (2,)),
    ("sort 1- | must 1 1=1", "2; 1; 3", (1,), (3,)),
    ("count 1 | must 1 1=1", "2; 2; 1", (1,), (2, 2)),
    ("number | must 1 1=1", "1; 2", (1,), (2, 2)),
    ("walk 1 a -", "1", (0,), (1,)),
    ("walk 1 a b:*=a", "1", (0,), (1,)),
    ("walk 1 a a:1=b,b:2=a", "1; 2; 2; 3", (0,), (2,)),
    ("walk 1 a a:1=b,b:2=a", "1; 1; 5", (0,), (1,)),
    ("walk 2 a a:*=b,b:x=c", "1 q; 2 x; 3 x", (0,), (3, "x")),
    ("walk 1 a a:*=b,b:*=c,c:*=a | must 2 b=b,a=a", "1; 2", (1,), (2, "c")),
    # within branches
    ("both (all) (must 1 1=1)", "1; 2", (0, 1, 0), (2,)),
    ("both (must 1 1=1) (all)", "1; 2", (0, 0, 0), (2,)),
    ("both (walk 1 a a:1=a) (all)", "1; 2", (0, 0, 0), (2,)),
    ("meet 1 1 (must 1 1=1) (all)", "1; 2", (0, 0, 0), (2,)),
    ("meet 1 1 (all) (keep 1 n:2 | must 1 1=1)", "1; 2", (0, 1, 1), (2,)),
    ("apart | both (all) (both (all) (apart | must 1 1=1))", "1; 1; 3; 3", (1, 1, 0, 1, 1), (3,)),
    ("meet 1 1 (all) (all) | must 1 1=1", "1; 4", (1,), (4,)),
    ("both (all) (turn 1 2=3) | must 1 1=1,2=2", "1; 2", (1,), (3,)),
    # the first place in running order, of its rows the first
    ("must 1 1=1,2=2 | must 1 1=1", "1; 2; 3", (0,), (3,)),
    ("must 1 1=1 | must 1 2=2", "1; 3", (0,), (3,)),
    ("both (must 1 1=1,2=2) (must 1 1=1)", "2; 3", (0, 0, 0), (3,)),
    ("both (must 1 1=1,2=2,3=3) (must 1 1=1)", "2; 3", (0, 1, 0), (2,)),
    ("both (keep 1 n:3 | must 1 1=1) (must 1 3=3)", "2; 3", (0, 0, 1), (3,)),
    ("both (all) (must 1 1=1) | must 1 3=3", "2; 3", (0, 1, 0), (2,)),
    ("meet 1 1 (keep 1 n:3 | must 1 1=1) (must 1 3=3)", "2; 3", (0, 0, 1), (3,)),
    ("must 1 1=5,2=6 | both (must 1 5=5) (must 1 6=6)", "1; 2", (1, 0, 0), (6,)),
    ("both (both (all) (must 1 1=1,2=2)) (must 1 1=1)", "2; 1; 7", (0, 0, 0, 1, 0), (7,)),
)


def outcome(pipe, rows):
    try:
        return told(pipe, rows)
    except Falls as fall:
        return (fall.place, fall.row)


class Running(unittest.TestCase):
    def test_workers(self):
        for text, rows, wanted in RUNS:
            with self.subTest(pipe=text, rows=rows):
                found = told(read_pipe(text), read_rows(rows))
                self.assertEqual(show_rows(found), wanted)
                self.assertIs(type(found), list)
                self.assertTrue(all(type(row) is tuple for row in found))

    def test_long_numbers_long_words_many_rows(self):
        for text, rows, wanted in NUMBERS_OF_SIXTY:
            self.assertEqual(told(read_pipe(text), rows), wanted, text)

    def test_somewhat_beyond_the_bounds(self):
        rows = [(at,) for at in range(70)]
        self.assertEqual(told((("first", 61),), rows), rows[:61])
        self.assertEqual(told((("first", -1),), rows), [])
        self.assertEqual(told((("turn", 1, tuple((at, 0) for at in range(70))),), rows), [(0,)] * 70)
        self.assertEqual(told((("count", (1,) * 7),), rows[:1]), [(0,) * 7 + (1,)])

    def test_falls(self):
        for text, rows, place, row in FALLS:
            with self.subTest(pipe=text, rows=rows):
                with self.assertRaises(Falls) as caught:
                    told(read_pipe(text), read_rows(rows))
                self.assertEqual((caught.exception.place, caught.exception.row), (place, row))

    def test_a_fall_behind_others_has_a_place_further_on(self):
        for text, rows, place, row in FALLS:
            ahead = (("cut", tuple(range(1, len(read_rows(rows)[0]) + 1))),) * 2
            self.assertEqual(
                outcome(ahead + read_pipe(text), read_rows(rows)), ((place[0] + 2,) + place[1:], row))

    def test_no_rows_are_told_to_pipes_for_any_head(self):
        texts = [text for text, rows, wanted in RUNS] + [text for text, rows, place, row in FALLS]
        texts += ["keep 6 n:1 | keep 1 w:*", "cut 6 6 | must 2 a=1", "sum 4 5 of 6", "sort 6 5-", "count 5 | number"]
        for text in texts:
            self.assertEqual(told(read_pipe(text), []), [], text)

    def test_rows_with_tallies_told_to_a_further_pipe(self):
        for text in ("count 1", "sum 1 of 1", "number", "count"):
            rows = told(read_pipe(text), [(1,), (1,), (2,), (1,)])
            for further in ("keep 1 n:1..", "sort 1-", "sum of 1", "cut 1 1", "number | count 1", "first 1",
                            "both (all) (apart)", "count 1 | keep 2 n:2.."):
                self.assertEqual(
                    told(read_pipe(further), rows), told(read_pipe(text + " | " + further), [(1,), (1,), (2,), (1,)]))
        self.assertEqual(told(read_pipe("keep 2 n:2.. | cut 1"), [("a", 2), ("b", 1)]), [("a",)])

    def test_sums_larger_than_what_may_be_handed_in_are_told_on(self):
        rows = told(read_pipe("sum of 1"), [(LONG,)] * 60)
        self.assertEqual(told(read_pipe("number | sum 1 of 1"), rows * 2), [(60 * LONG, 120 * LONG)])

    def test_a_pipe_cut_anywhere_tells_the_same(self):
        fallen = 0
        for kind, pipe in cases(300, seed=1):
            for rows in lists_of(kind, most=20)[-6:]:
                whole = outcome(pipe, rows)
                fallen += isinstance(whole, tuple)
                for at in range(len(pipe) + 1):
                    part = outcome(pipe[:at], rows)
                    if isinstance(part, tuple):
                        self.assertEqual(part, whole, (pipe, at))
                        continue
                    rest = outcome(pipe[at:], part)
                    if isinstance(rest, tuple):
                        rest = ((rest[0][0] + at,) + rest[0][1:], rest[1])
                    self.assertEqual(rest, whole, (pipe, at))
        self.assertGreater(fallen, 20)

    def test_branches_in_another_order_tell_the_same_rows_in_another_order(self):
        for kind, pipe in cases(300, seed=2):
            for rows in lists_of(kind, most=20)[-6:]:
                one, other = outcome((("both", pipe, ()),), rows), outcome((("both", (), pipe),), rows)
                if isinstance(one, list):
                    self.assertEqual(one, told(pipe, rows) + rows)
                    self.assertEqual(other, rows + told(pipe, rows))
                else:
                    self.assertIsInstance(other, tuple)
                    self.assertEqual((one[0][2:], one[1]), (other[0][2:], other[1]))

    def test_meet_in_another_order_tells_the_same_pairs(self):
        for number in range(200):
            chance = random.Random(number)
            rows = [(chance.choice(cells_of("n")), chance.choice("ab"), at) for at in range(chance.randint(0, 6))]
            one = told((("meet", 1, 1, (("cut", (1, 2)),), (("cut", (1, 3)),)),), rows)
            other = told((("meet", 1, 1, (("cut", (1, 3)),), (("cut", (1, 2)),)),), rows)
            self.assertEqual(sorted(one), sorted((cell, word, at) for cell, at, word in other))
            self.assertEqual(one, [
                (cell, word, at) for cell, word, mine in rows for other_cell, skipped, at in rows if cell == other_cell])

    def test_what_is_handed_in_stays_and_a_told_list_is_the_askers_own(self):
        for text, rows, wanted in RUNS:
            pipe, handed = read_pipe(text), read_rows(rows)
            first = told(pipe, handed)
            self.assertIsNot(first, handed)
            again = list(first)
            first.append("changed")
            first.reverse()
            self.assertEqual(handed, read_rows(rows))
            self.assertEqual(told(pipe, handed), again)
            self.assertEqual(pipe, read_pipe(text))
            handed.append("changed")
            self.assertEqual(told(pipe, read_rows(rows)), again)

    def test_what_is_handed_in_stays_where_it_falls(self):
        for text, rows, place, row in FALLS:
            pipe, handed = read_pipe(text), read_rows(rows)
            self.assertEqual(outcome(pipe, handed), outcome(pipe, handed))
            self.assertEqual((pipe, handed), (read_pipe(text), read_rows(rows)))


if __name__ == "__main__":
    unittest.main()
