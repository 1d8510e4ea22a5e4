"""Pipes written and read (points 8 and 10)."""

import itertools
import unittest

from rowpipes.errors import NoText
from rowpipes.pipetexts import read_pipe, show_pipe

LONG = 10 ** 60 - 1
NO_TEXTS = (None, 0, 1, True, b"all", [], ["all"], (), ("all",), (("apart",),), {}, set(), object(), str)

# Each of the fourteen sorts of workers, in each of its forms.
WORKERS = (
    (("keep", 1, ("n", ((None, None),))), "keep 1 n:.."),
    (("keep", 12, ("n", ((None, -4), (1, 3), (5, 5), (9, None)))), "keep 12 n:..-4,1..3,5,9.."),
    (("keep", 2, ("n", ())), "keep 2 n:-"),
    (("keep", 3, ("w", True, ("blue", "red"))), "keep 3 w:blue,red"),
    (("keep", 3, ("w", False, ("blue", "red"))), "keep 3 w:*-blue,red"),
    (("keep", 3, ("w", False, ())), "keep 3 w:*"),
    (("keep", 3, ("w", True, ())), "keep 3 w:-"),
    (("same", 1, 2), "same 1 2"),
    (("same", 12, 12), "same 12 12"),
    (("cut", (1,)), "cut 1"),
    (("cut", (2, 1, 2)), "cut 2 1 2"),
    (("cut", (12, 11, 10, 9, 8, 7)), "cut 12 11 10 9 8 7"),
    (("turn", 1, ((1, 2),)), "turn 1 1=2"),
    (("turn", 2, (("red", "blue"), ("blue", "red"))), "turn 2 red=blue,blue=red"),
    (("turn", 1, (("red", 1), (1, "red"), (-1, LONG))), "turn 1 red=1,1=red,-1=" + "9" * 60),
    (("turn", 1, tuple((at, at) for at in range(8))), "turn 1 0=0,1=1,2=2,3=3,4=4,5=5,6=6,7=7"),
    (("must", 1, (("a", "b"),)), "must 1 a=b"),
    (("must", 12, ((-5, 0), (0, -5), ("zzzzzzzz", "z"))), "must 12 -5=0,0=-5,zzzzzzzz=z"),
    (("walk", 1, "off", ()), "walk 1 off -"),
    (("walk", 1, "off", (("off", 1, "on"), ("on", None, "off"))), "walk 1 off off:1=on,on:*=off"),
    (("walk", 3, "a", (("b", "red", "a"), ("b", None, "c"), ("b", -2, "d"))), "walk 3 a b:red=a,b:*=c,b:-2=d"),
    (("walk", 1, "a", tuple(("a", at, "b") for at in range(16))),
     "walk 1 a " + ",".join(f"a:{at}=b" for at in range(16))),
    (("sort", ((1, False),)), "sort 1"),
    (("sort", ((1, True),)), "sort 1-"),
    (("sort", ((3, False), (12, True), (1, False))), "sort 3 12- 1"),
    (("sort", tuple((at, at % 2 == 0) for at in range(1, 7))), "sort 1 2- 3 4- 5 6-"),
    (("apart",), "apart"),
    (("count", ()), "count"),
    (("count", (1,)), "count 1"),
    (("count", (5, 4, 3, 2, 2)), "count 5 4 3 2 2"),
    (("sum", (), 3), "sum of 3"),
    (("sum", (1, 2), 12), "sum 1 2 of 12"),
    (("sum", (1, 2, 3, 4, 5), 1), "sum 1 2 3 4 5 of 1"),
    (("number",), "number"),
    (("first", 0), "first 0"),
    (("first", 60), "first 60"),
    (("both", (), ()), "both (all) (all)"),
    (("both", (("apart",),), (("cut", (1,)), ("number",))), "both (apart) (cut 1 | number)"),
    (("meet", 1, 12, (), ()), "meet 1 12 (all) (all)"),
    (("meet", 2, 1, (("same", 1, 2), ("cut", (1,))), ()), "meet 2 1 (same 1 2 | cut 1) (all)"),
)

PIPES = (
    ((), "all"),
    ((("first", 3), ("apart",), ("count", ())), "first 3 | apart | count"),
    ((("sum", (), 1), ("walk", 1, "of", (("of", None, "all"),)), ("apart",)), "sum of 1 | walk 1 of of:*=all | apart"),
    ((("both", (), ()), ("both", (), ())), "both (all) (all) | both (all) (all)"),
    ((("both", (("both", (("both", (), (("number",),)),), ()),), (("meet", 1, 1, (), ()), ("apart",))), ("first", 1)),
     "both (both (both (all) (number)) (all)) (meet 1 1 (all) (all) | apart) | first 1"),
    ((("meet", 1, 2, (("meet", 3, 4, (), (("both", (("apart",),), ()),)),), ()),),
     "meet 1 2 (meet 3 4 (all) (both (apart) (all))) (all)"),
    ((("both", (), (("both", (), (("both", (), ()),)),)),), "both (all) (both (all) (both (all) (all)))"),
)

NOT_WRITTEN = (
    "", " ", "|", " | ", "-", "none", "All", "ALL", "all ", " all", "all all", "all | all", "all | apart", "apart | all",
    "apart |", "| apart", "apart | ", " | apart", "apart  | apart", "apart |  apart", "apart|apart", "apart| apart",
    "apart |apart", "apart || apart", "apart | | apart", "apart;apart", "apart apart", "apart\n", "apart\n| apart",
    "all~", "both (all~ (all)", "both (all)~ (all)", "sortof 1", "Apart", "APART", "filter 1",
    # keep, same, cut
    "keep", "keep 1", "keep n:..", "keep 0 n:..", "keep 13 n:..", "keep -1 n:..", "keep 01 n:..", "keep 1  n:..",
    "keep 1 n:.. ", "keep 1 n:2,1", "keep 1 n:1..1", "keep 1 w:red,blue", "keep 1 x:1", "keep 1 n", "keep 1 n:.. n:..",
    "keep 1 2 n:..", "keep a n:..", "keep 1 red", "keep 1 n:1, 3", "keep  1 n:..",
    "same", "same 1", "same 1 2 3", "same 0 1", "same 1 0", "same 13 1", "same 1 13", "same 1,2", "same a b", "same 1  2",
    "cut", "cut ", "cut 0", "cut 13", "cut 1 2 3 4 5 6 7", "cut 1,2", "cut a", "cut -", "cut 1-", "cut 1  2", "cut 01",
    "cut +1", "cut 1.0", "cut 1 2 0", "cut 100", "cut 112", "cut -12",
    # turn, must
    "turn", "turn 1", "turn 1=2", "turn 0 1=2", "turn 13 1=2", "turn 1 -", "turn 1 1", "turn 1 1=", "turn 1 =1",
    "turn 1 =", "turn 1 1=2=3", "turn 1 1=2,", "turn 1 ,1=2", "turn 1 1=2,,3=4", "turn 1 1=2, 3=4", "turn 1 1=2,1=3",
    "turn 1 1=2,1=2", "turn 1 a=b,c=d,a=e", "turn 1 1 = 2", "turn 1 01=2", "turn 1 1=02", "turn 1 -0=1", "turn 1 *=2",
    "turn 1 1=*", "turn 1 1:2", "turn 1 A=b", "turn 1 abcdefghi=a", "turn 1 a=abcdefghi", "turn 1 1=2 3=4",
    "turn 1 0=0,1=1,2=2,3=3,4=4,5=5,6=6,7=7,8=8", "turn 1 2 1=2", "turn a 1=2",
    "must", "must 1", "must 1 -", "must 1 1=2,1=3", "must 0 a=b", "must 13 a=b", "must 1 a", "must 1 a=", "must 1 a=b,",
    "must 1 0=0,1=1,2=2,3=3,4=4,5=5,6=6,7=7,8=8", "must 1 a=b a=c",
    # walk
    "walk", "walk 1", "walk 1 a", "walk a -", "walk 1 a ", "walk 0 a -", "walk 13 a -", "walk 1 A -", "walk 1 1 -",
    "walk 1 * -", "walk 1 abcdefghi -", "walk 1 a --", "walk 1 a *", "walk 1 a - -", "walk 1 a a:1", "walk 1 a a=b",
    "walk 1 a 1=b", "walk 1 a a:1=", "walk 1 a a:=b", "walk 1 a :1=b", "walk 1 a a:1=1", "walk 1 a a:1=*",
    "walk 1 a 1:1=b", "walk 1 a *:1=b", "walk 1 a A:1=b", "walk 1 a a:1=B", "walk 1 a a:01=b", "walk 1 a a:-=b",
    "walk 1 a a:**=b", "walk 1 a a:1=b,", "walk 1 a ,a:1=b", "walk 1 a -,a:1=b", "walk 1 a a:1=b,-", "walk 1 a a:1=b=c",
    "walk 1 a a:1:2=b", "walk 1 a a:1=b,a:1=b", "walk 1 a a:1=b,a:1=c", "walk 1 a a:*=b,a:*=c", "walk 1 a a:x=b,a:x=c",
    "walk 1 a a:1=b, a:2=b", "walk 1 a a:1=b a:2=b", "walk 1 a abcdefghi:1=b", "walk 1 a a:1=abcdefghi",
    "walk 1 a a:None=b", "walk 1 a a:1=None",
    "walk 1 a " + ",".join(f"a:{at}=b" for at in range(17)),
    # sort, apart, count, sum, number, first
    "sort", "sort -", "sort 0", "sort 13", "sort 0-", "sort 13-", "sort 1 1", "sort 1 1-", "sort 1- 1", "sort 1- 1-",
    "sort 1--", "sort -1", "sort 1 -", "sort 1+", "sort 1,2", "sort 1  2", "sort 1 2 3 4 5 6 7", "sort a", "sort 01",
    "sort 1 2 3 1", "sort 1 ", "sort 1 - 2",
    "apart 1", "apart -", "apart ", "number 1", "number ", "numbers",
    "count 0", "count 13", "count 1 2 3 4 5 6", "count -", "count a", "count 1,2", "count ", "count of 1", "count  1",
    "sum", "sum 1", "sum of", "sum of ", "sum 1 of", "sum 1 2", "sum of 0", "sum of 13", "sum 0 of 1", "sum 13 of 1",
    "sum 1 2 3 4 5 6 of 1", "sum of 1 2", "sum of of 1", "sum 1 of of 1", "sum 1  of 2", "sum 1 of  2", "sum of a",
    "sum 1 Of 2", "sum of 1 of 2", "sumof 1",
    "first", "first -1", "first 61", "first 100", "first 00", "first 01", "first -0", "first a", "first 1 2", "first ",
    "first 1-", "first 1.0",
    # both, meet
    "both", "both ", "both (all)", "both (all) ", "both (all)(all)", "both(all) (all)", "both (all)  (all)",
    "both (all) (all) ", "both (all) (all) (all)", "both all all", "both () ()", "both (all) ()", "both ( ) ( )",
    "both ( all) (all)", "both (all ) (all)", "both (all) (all", "both (all) all)", "both all) (all)", "both (all (all)",
    "both (all) (all))", "both ((all) (all)", "both ((all)) (all)", "both (all) ((all))", "both 1 (all) (all)",
    "both (all) 1 (all)", "both (all) (all) 1", "both [all] [all]", "both {all} {all}", "both (all) | (all)",
    "both (both (all)) (all)", "both (all) (both (all))", "both (all) (both (all) (all)", "both (cut 0) (all)",
    "both (all) (apart |)", "both (all) (| apart)", "both (all | apart) (all)", "both (all), (all)", "both (junk) (all)",
    "meet (all) (all)", "meet 1 (all) (all)", "meet 1 2 3 (all) (all)", "meet 0 1 (all) (all)", "meet 1 13 (all) (all)",
    "meet 1 2", "meet 1 2 (all)", "meet 1 2 (all) (all) (all)", "meet (all) (all) 1 2", "meet 1 (all) 2 (all)",
    "meet (all) 1 2 (all)", "meet 1 2(all) (all)", "meet 1 2 (all)(all)", "meet 1 2 ((all) (all))", "meet 1,2 (all) (all)",
    "(all)", "(apart)", "(", ")", "()", "(all) (all)", "(both (all) (all))", "apart | (apart)", "(apart) | apart",
    "(apart | apart)", "cut (all)", "cut 1 (all)", "cut (1)", "cut (1 2)", "count (all)", "apart (all)", "apart (all) (all)",
    "first 1)", "(first 1", "keep 1 (all)", "keep (1 n:..", "keep 1 (n:..)", "all)", "(all", ")(", "number (all) (all)",
    "\u0430ll", "cut \u0661", "cut \u00b2", "cut 1\u00a02", "cut 1\t2",
)


def is_cell(cell):
    return type(cell) is int or is_word(cell)


def is_word(text):
    return type(text) is str and 1 <= len(text) <= 8 and set(text) <= set("abcdefghijklmnopqrstuvwxyz")


def are_columns(columns, least, most):
    return type(columns) is tuple and least <= len(columns) <= most and all(is_column(column) for column in columns)


def is_column(column):
    return type(column) is int and 1 <= column <= 12


def are_pairs(pairs):
    return (type(pairs) is tuple and 1 <= len(pairs) <= 8
            and all(type(pair) is tuple and len(pair) == 2 and is_cell(pair[0]) and is_cell(pair[1]) for pair in pairs)
            and len(dict(pairs)) == len(pairs))


def are_moves(moves):
    return (type(moves) is tuple and len(moves) <= 16
            and all(is_word(state) and (cell is None or is_cell(cell)) and is_word(after) for state, cell, after in moves)
            and len({move[:2] for move in moves}) == len(moves))


def is_sorting(columns):
    return (are_columns(tuple(column for column, _ in columns), 1, 6) and len(dict(columns)) == len(columns)
            and all(type(pair) is tuple and type(pair[1]) is bool for pair in columns))


def is_worker(worker):
    """Whether this is a worker, by the words of point 8 (but for the set of a keep)."""
    checks = {
        "keep": (is_column, lambda told: type(told) is tuple), "same": (is_column, is_column),
        "cut": (lambda columns: are_columns(columns, 1, 6),), "turn": (is_column, are_pairs),
        "must": (is_column, are_pairs), "walk": (is_column, is_word, are_moves), "sort": (is_sorting,), "apart": (),
        "count": (lambda columns: are_columns(columns, 0, 5),),
        "sum": (lambda columns: are_columns(columns, 0, 5), is_column), "number": (),
        "first": (lambda many: type(many) is int and 0 <= many <= 60,), "both": (is_pipe, is_pipe),
        "meet": (is_column, is_column, is_pipe, is_pipe)}[worker[0]]
    return len(worker) == len(checks) + 1 and all(check(part) for check, part in zip(checks, worker[1:]))


def is_pipe(pipe):
    return type(pipe) is tuple and all(type(worker) is tuple and is_worker(worker) for worker in pipe)


class Written(unittest.TestCase):
    def test_each_sort_of_workers_stands_here(self):
        self.assertEqual(len({worker[0] for worker, _ in WORKERS}), 14)

    def test_workers_as_text(self):
        for worker, text in WORKERS:
            self.assertEqual(show_pipe((worker,)), text)

    def test_text_as_workers(self):
        for worker, text in WORKERS:
            self.assertEqual(read_pipe(text), (worker,))
            self.assertTrue(is_pipe(read_pipe(text)), text)

    def test_pipes(self):
        for pipe, text in PIPES:
            self.assertEqual(show_pipe(pipe), text)
            self.assertEqual(read_pipe(text), pipe)
            self.assertTrue(is_pipe(read_pipe(text)), text)

    def test_each_worker_behind_and_within_each_other(self):
        for (one, one_text), (other, other_text) in itertools.product(WORKERS, repeat=2):
            pipe = (one, ("both", (other,), (one, other)), ("meet", 1, 2, (other, one), (one,)), other)
            text = (f"{one_text} | both ({other_text}) ({one_text} | {other_text})"
                    f" | meet 1 2 ({other_text} | {one_text}) ({one_text}) | {other_text}")
            self.assertEqual(show_pipe(pipe), text)
            self.assertEqual(read_pipe(text), pipe)

    def test_many_workers(self):
        pipe = tuple(worker for worker, _ in WORKERS)
        text = " | ".join(text for _, text in WORKERS)
        self.assertEqual(show_pipe(pipe), text)
        self.assertEqual(read_pipe(text), pipe)

    def test_many_branches_within_one_another(self):
        pipe, text = (("apart",),), "apart"
        for deep in range(8):
            pipe, text = (("both", pipe, ()), ("meet", 1, 2, (), pipe)), f"both ({text}) (all) | meet 1 2 (all) ({text})"
            self.assertEqual(show_pipe(pipe), text)
            self.assertEqual(read_pipe(text), pipe)

    def test_the_same_asked_again_is_told_alike(self):
        for pipe, text in PIPES:
            self.assertEqual((show_pipe(pipe), show_pipe(pipe)), (text, text))
            self.assertEqual((read_pipe(text), read_pipe(text)), (pipe, pipe))


class NotWritten(unittest.TestCase):
    def test_other_texts(self):
        for text in NOT_WRITTEN:
            with self.assertRaises(NoText, msg=repr(text)):
                read_pipe(text)

    def test_no_texts(self):
        for thing in NO_TEXTS:
            with self.assertRaises(NoText, msg=repr(thing)):
                read_pipe(thing)

    def test_a_wrong_worker_is_refused_wherever_it_stands(self):
        wrong = [text for text in NOT_WRITTEN if text != "" and not set(text) & set("()|") and text.strip() == text]
        self.assertGreater(len(wrong), 150)
        for text in wrong:
            for whole in (f"apart | {text}", f"{text} | apart", f"both ({text}) (all)", f"both (all) ({text})",
                          f"meet 1 2 (all) (both (apart) (apart | {text}))"):
                with self.assertRaises(NoText, msg=repr(whole)):
                    read_pipe(whole)

    def test_many_brackets(self):
        texts = ["(" * 4000, ")" * 4000, "(" * 2000 + ")" * 2000, "()" * 2000, "both (" * 650, "(all) " * 600,
                 "both (" * 280 + "junk" + ") (all)" * 280, "both (all) (" * 300, "both (all) (all) | " * 200]
        for text in texts:
            with self.assertRaises(NoText, msg=text[:30]):
                read_pipe(text)

    def test_just_what_is_written_is_read_of_texts_with_a_sign_changed(self):
        read = 0
        for _, text in WORKERS + PIPES:
            for changed in changed_texts(text):
                try:
                    pipe = read_pipe(changed)
                except NoText:
                    continue
                self.assertTrue(is_pipe(pipe), changed)
                self.assertEqual(show_pipe(pipe), changed)
                read += 1
        self.assertGreater(read, 1000)


def changed_texts(text):
    """The texts with one sign left out, put in, or exchanged."""
    for at in range(len(text) + 1):
        yield text[:at] + text[at + 1:]
        for sign in " |()=,:*-.019ab~":
            yield text[:at] + sign + text[at:]
            yield text[:at] + sign + text[at + 1:]


if __name__ == "__main__":
    unittest.main()
