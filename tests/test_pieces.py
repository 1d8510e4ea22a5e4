"""Pipes fed piece by piece (points 19 to 21)."""

import copy
import itertools
import unittest

from rowpipes.cells import read_rows
from rowpipes.errors import Falls, NoPipe
from rowpipes.heads import head_behind
from rowpipes.pieces import begun, ended, fed, kept
from rowpipes.pipetexts import read_pipe
from rowpipes.running import told
from samples import NAMES, ONE_ROW, cases, lists_of

# What the points say of a pipe to which these rows came, in whatever pieces, looked at from all of them at once.


def told_so_far(pipe, rows):
    """What was told of these rows, before the end."""
    for worker in pipe:
        if worker[0] == "both":
            rows = told_so_far(worker[1], rows)
        elif worker[0] in ("sort", "meet"):
            rows = []
        elif worker[0] in ("count", "sum"):
            rows = told((worker,), rows)[:-1]
        else:
            rows = told((worker,), rows)
    return rows


def state_of(worker, rows):
    name, *parts = worker
    if name == "walk":
        return (told((worker,), rows)[-1][-1],) if rows else (parts[1],)
    if name == "sort":
        return (tuple(rows),)
    if name == "apart":
        return tuple(rows[-1:])
    if name in ("count", "sum"):
        last = told((worker,), rows)[-1:]
        return (last[0][:-1], last[0][-1]) if last else ()
    if name == "number":
        return (len(rows) + 1,)
    if name == "first":
        return (max(parts[0] - len(rows), 0),)
    if name == "both":
        return (state_behind(parts[0], rows), state_behind(parts[1], rows), tuple(told_so_far(parts[1], rows)))
    if name == "meet":
        one, other = parts[2:]
        return (state_behind(one, rows), state_behind(other, rows), tuple(told_so_far(one, rows)), tuple(told_so_far(other, rows)))
    return ()


def state_behind(pipe, rows):
    return tuple(state_of(worker, told_so_far(pipe[:at], rows)) for at, worker in enumerate(pipe))


def kept_behind(pipe, rows):
    many = 0
    for at, worker in enumerate(pipe):
        came = told_so_far(pipe[:at], rows)
        if worker[0] == "sort":
            many += len(came)
        if worker[0] in ("apart", "count", "sum"):
            many += min(len(came), 1)
        if worker[0] in ("both", "meet"):
            one, other = worker[-2:]
            many += kept_behind(one, came) + kept_behind(other, came) + len(told_so_far(other, came))
            many += len(told_so_far(one, came)) if worker[0] == "meet" else 0
    return many


def cuts(rows):
    """The rows in pieces, all manners of cutting them, and some with pieces of no rows."""
    for many in range(len(rows) + 1):
        for places in itertools.combinations(range(1, len(rows)), many):
            bounds = (0,) + places + (len(rows),)
            yield [rows[low:high] for low, high in zip(bounds, bounds[1:])]
    yield []
    yield [[]]
    yield [[], rows, []]
    yield [piece for row in rows for piece in ([], [row], [])]


# Pipe; the pieces; behind each the state, the rows told, how many are kept; the rows at the end.
FED = (
    ("all", "()", 0, (("1; 2", "()", "1; 2", 0), ("-", "()", "-", 0), ("3", "()", "3", 0)), "-"),
    ("keep 1 n:2..", "((),)", 0, (("1; 2; 3", "((),)", "2; 3", 0), ("1", "((),)", "-", 0)), "-"),
    ("same 1 2", "((),)", 0, (("1 2; 2 2", "((),)", "2 2", 0),), "-"),
    ("cut 2 1 2", "((),)", 0, (("1 2", "((),)", "2 1 2", 0),), "-"),
    ("turn 1 1=5", "((),)", 0, (("1; 2", "((),)", "5; 2", 0),), "-"),
    ("must 1 1=a,2=b", "((),)", 0, (("1; 2", "((),)", "a; b", 0), ("-", "((),)", "-", 0)), "-"),
    ("walk 1 p p:1=q,p:*=p,q:*=p", "(('p',),)", 0, (
        ("-", "(('p',),)", "-", 0), ("1", "(('q',),)", "1 q", 0), ("-", "(('q',),)", "-", 0), ("7; 1", "(('q',),)", "7 p; 1 q", 0)), "-"),
    ("sort 1-", "(((),),)", 0, (
        ("2; 1", "((((2,), (1,)),),)", "-", 2), ("-", "((((2,), (1,)),),)", "-", 2), ("3", "((((2,), (1,), (3,)),),)", "-", 3)), "3; 2; 1"),
    ("sort 1", "(((),),)", 0, (("2 a; 1 b", "((((2, 'a'), (1, 'b')),),)", "-", 2), ("1 a", "((((2, 'a'), (1, 'b'), (1, 'a')),),)", "-", 3)),
     "1 b; 1 a; 2 a"),
    ("apart", "((),)", 0, (
        ("-", "((),)", "-", 0), ("1; 1", "(((1,),),)", "1", 1), ("1", "(((1,),),)", "-", 1), ("1; 2; 2; 1", "(((1,),),)", "2; 1", 1)), "-"),
    ("count 1", "((),)", 0, (
        ("-", "((),)", "-", 0), ("7 a; 7 b", "(((7,), 2),)", "-", 1), ("-", "(((7,), 2),)", "-", 1), ("7 a", "(((7,), 3),)", "-", 1),
        ("8 a; 9 a; 9 b", "(((9,), 2),)", "7 3; 8 1", 1)), "9 2"),
    ("count", "((),)", 0, (("1; 2", "(((), 2),)", "-", 1), ("3", "(((), 3),)", "-", 1)), "3"),
    ("count", "((),)", 0, (("-", "((),)", "-", 0),), "-"),
    ("sum 2 of 1", "((),)", 0, (
        ("3 a; 4 a", "((('a',), 7),)", "-", 1), ("-7 a", "((('a',), 0),)", "-", 1), ("5 b", "((('b',), 5),)", "a 0", 1)), "b 5"),
    ("sum of 1", "((),)", 0, (("3; 4", "(((), 7),)", "-", 1), ("-8", "(((), -1),)", "-", 1)), "-1"),
    ("sum 1 1 of 1", "((),)", 0, (("0", "(((0, 0), 0),)", "-", 1),), "0 0 0"),
    ("number", "((1,),)", 0, (("a; b", "((3,),)", "a 1; b 2", 0), ("-", "((3,),)", "-", 0), ("a", "((4,),)", "a 3", 0)), "-"),
    ("first 2", "((2,),)", 0, (("1", "((1,),)", "1", 0), ("2; 3", "((0,),)", "2", 0), ("4", "((0,),)", "-", 0)), "-"),
    ("first 0", "((0,),)", 0, (("1", "((0,),)", "-", 0),), "-"),
    ("first 60", "((60,),)", 0, (("1", "((59,),)", "1", 0),), "-"),
    ("both (all) (turn 1 1=5)", "(((), ((),), ()),)", 0, (
        ("1", "(((), ((),), ((5,),)),)", "1", 1), ("-", "(((), ((),), ((5,),)),)", "-", 1), ("2", "(((), ((),), ((5,), (2,))),)", "2", 2)), "5; 2"),
    ("both (sort 1) (apart)", "(((((),),), ((),), ()),)", 0, (
        ("2; 2", "((((((2,), (2,)),),), (((2,),),), ((2,),)),)", "-", 4),
        ("1", "((((((2,), (2,), (1,)),),), (((1,),),), ((2,), (1,))),)", "-", 6)), "1; 2; 2; 2; 1"),
    ("both (count 1) (count 1)", "((((),), ((),), ()),)", 0, (
        ("1; 1; 2", "(((((2,), 1),), (((2,), 1),), ((1, 2),)),)", "1 2", 3),), "2 1; 1 2; 2 1"),
    ("meet 1 1 (keep 1 n:1..2) (all)", "((((),), (), (), ()),)", 0, (
        ("1 a; 3 b", "((((),), (), ((1, 'a'),), ((1, 'a'), (3, 'b'))),)", "-", 3),
        ("1 c", "((((),), (), ((1, 'a'), (1, 'c')), ((1, 'a'), (3, 'b'), (1, 'c'))),)", "-", 5)), "1 a a; 1 a c; 1 c a; 1 c c"),
    # one behind another: what comes at the end goes through all that stand behind
    ("sort 1 | number", "(((),), (1,))", 0, (("2; 1", "((((2,), (1,)),), (1,))", "-", 2),), "1 1; 2 2"),
    ("number | sort 2-", "((1,), ((),))", 0, (("a; b", "((3,), ((('a', 1), ('b', 2)),))", "-", 2),), "b 2; a 1"),
    ("count 1 | count", "((), ())", 0, (("1; 2; 2", "(((2,), 2), ((), 1))", "-", 2),), "2"),
    ("count 1 | keep 2 n:2", "((), ())", 0, (("1; 1; 2; 2", "(((2,), 2), ())", "1 2", 1),), "2 2"),
    ("first 1 | sort 1 | apart", "((1,), ((),), ())", 0, (("3; 2", "((0,), (((3,),),), ())", "-", 1), ("1", "((0,), (((3,),),), ())", "-", 1)), "3"),
    ("sort 1 | both (first 1) (apart) | number", "(((),), (((1,),), ((),), ()), (1,))", 0, (
        ("2; 2; 1", "((((2,), (2,), (1,)),), (((1,),), ((),), ()), (1,))", "-", 3),), "1 1; 1 2; 2 3"),
)


class WordByWord(unittest.TestCase):
    def test_states_rows_and_rest(self):
        for text, first, many, pieces, rest in FED:
            pipe = read_pipe(text)
            with self.subTest(pipe=text):
                state = begun(pipe)
                self.assertEqual((repr(state), kept(pipe, state)), (first, many))
                for piece, behind, now, many_kept in pieces:
                    state, rows = fed(pipe, state, read_rows(piece))
                    self.assertEqual((repr(state), rows, kept(pipe, state)), (behind, read_rows(now), many_kept))
                self.assertEqual(ended(pipe, state), read_rows(rest))

    def test_nothing_but_the_end(self):
        for text in [case[0] for case in FED]:
            pipe = read_pipe(text)
            self.assertEqual(ended(pipe, begun(pipe)), told(pipe, []), text)

    def test_branches_within_one_another(self):
        pipe = read_pipe("both (both (all) (both (sort 1) (number | cut 1))) (apart)")
        inmost = ((((),),), ((1,), ()), ())
        self.assertEqual(begun(pipe), (((((), (inmost,), ()),), ((),), ()),))
        state, rows = fed(pipe, begun(pipe), [(2,), (1,)])
        self.assertEqual(rows, [(2,), (1,)])
        # The inmost both tells nothing now, since its sort doesn't; so the one round it has no rows of it.
        inmost = (((((2,), (1,)),),), ((3,), ()), ((2,), (1,)))
        self.assertEqual(state, (((((), (inmost,), ()),), (((1,),),), ((2,), (1,))),))
        self.assertEqual(kept(pipe, state), 2 + 2 + 0 + 1 + 2)
        self.assertEqual(ended(pipe, state), [(1,), (2,), (2,), (1,), (2,), (1,)])


class AgainstThePoints(unittest.TestCase):
    def check_pieces(self, pipe, rows, pieces):
        """Whether the states and rows at each piece and at the end are those of the points."""
        state, found, came = begun(pipe), [], []
        self.assertEqual(state, state_behind(pipe, []))
        for piece in pieces:
            state, now = fed(pipe, state, piece)
            self.assertIs(type(now), list)
            found += now
            came += piece
            self.assertEqual(state, state_behind(pipe, came), (pipe, pieces))
            self.assertEqual(found, told_so_far(pipe, came), (pipe, pieces))
            self.assertEqual(kept(pipe, state), kept_behind(pipe, came), (pipe, pieces))
        if came == rows:
            rest = ended(pipe, state)
            self.assertIs(type(rest), list)
            self.assertEqual(found + rest, told(pipe, rows), (pipe, pieces))

    def check_falls(self, pipe, pieces):
        with self.assertRaises(Falls):
            state = begun(pipe)
            for piece in pieces:
                state, now = fed(pipe, state, piece)
            ended(pipe, state)

    def check(self, pipe, rows):
        try:
            told(pipe, rows)
        except Falls:
            for pieces in cuts(rows):
                if sum(pieces, []) == rows:
                    self.check_falls(pipe, pieces)
            return "falls"
        for pieces in cuts(rows):
            self.check_pieces(pipe, rows, pieces)
        return "told"

    def test_many_pipes_in_all_pieces(self):
        seen = {"falls": 0, "told": 0}
        for names, seed, many in ((NAMES, 51, 900), (ONE_ROW + ("walk", "both", "sort", "count"), 52, 300), (ONE_ROW + ("meet", "both"), 53, 300)):
            for kind, pipe in cases(many, names=names, seed=seed):
                for rows in lists_of(kind, 80)[::11]:
                    seen[self.check(pipe, rows)] += 1
        self.assertGreater(min(seen.values()), 200, seen)

    def test_each_worker_behind_each_other_one_and_in_branches(self):
        workers = [read_pipe(text) for text in (
            "keep 1 n:1..2", "same 1 2", "cut 2 1", "turn 1 1=2", "must 1 1=2,2=1,3=3", "walk 1 p p:1=q,p:*=p,q:*=p", "sort 2-", "apart",
            "count 1 2 | cut 1 2", "sum 1 2 of 1 | cut 2 1", "number | cut 1 2", "first 3", "both (cut 2 1) (sort 1)",
            "meet 1 2 (all) (turn 1 3=1) | cut 1 3")]
        rows = [(1, 1), (1, 1), (2, 1), (3, 3), (1, 2)]
        seen = 0
        for one, other in itertools.product(workers, repeat=2):
            for pipe in (one + other, (("both", one, other),), (("both", (("both", one, one),), (("both", (("both", one, other),), one),)),)):
                if self.is_put_together(pipe):
                    seen += 1
                    for pieces in ([rows], [rows[:2], rows[2:]], [rows[:1], [], rows[1:4], rows[4:]], [[row] for row in rows]):
                        self.check_pieces(pipe, rows, pieces)
        self.assertGreater(seen, 500)

    def is_put_together(self, pipe):
        try:
            head_behind(("n", "n"), pipe)
        except NoPipe:
            return False
        return True

    def test_all_fourteen_sorts_were_among_them(self):
        self.assertEqual(len(NAMES), 14)
        met = set()
        for kind, pipe in cases(900, seed=51):
            met.update(name for name in NAMES if f"'{name}'" in repr(pipe))
        self.assertEqual(met, set(NAMES))

    def test_rows_with_tallies_that_a_pipe_told(self):
        source = read_pipe("number | sum 1 2 of 2")
        rows = told(source, [(3,), (3,), (1,), (3,)])
        self.assertEqual(rows, [(3, 1, 1), (3, 2, 2), (1, 3, 3), (3, 4, 4)])
        for text in ("keep 2 n:2..", "sum 1 of 2", "sort 2- | count 1", "both (cut 1 2) (cut 1 3)", "apart | sum of 3 | number",
                     "meet 1 1 (cut 1 2) (cut 1 3)"):
            for pieces in cuts(rows):
                self.check_pieces(read_pipe(text), rows, pieces)

    def test_a_tally_greater_than_any_number_handed_in(self):
        long = 10 ** 60 - 1
        pipe = read_pipe("sum of 1 | sum of 1")
        state, now = fed(pipe, begun(pipe), [(long,)] * 30)
        state, later = fed(pipe, state, [(long,)] * 30)
        self.assertEqual((now, later, ended(pipe, state)), ([], [], [(60 * long,)]))


class Falling(unittest.TestCase):
    def test_at_a_piece_or_at_the_end(self):
        # Pipe, pieces, at which of them it falls: as soon as the row comes to the worker, the last one at the end.
        for text, pieces, at in (
                ("must 1 1=1", ["1", "2"], 1), ("must 1 1=1", ["2", "1"], 0), ("walk 1 p p:1=q,q:2=p", ["1", "1"], 1),
                ("walk 1 p p:1=q,q:2=p", ["1; 2", "2"], 1), ("sort 1 | must 1 1=1", ["1", "2"], 2),
                ("count 1 | must 1 1=1", ["1", "2"], 2), ("count 1 | must 1 1=1", ["2", "1"], 1),
                ("both (all) (must 1 1=1)", ["1", "2"], 1), ("both (sort 1) (all) | must 1 1=1", ["2"], 1),
                ("both (all) (all) | must 1 1=1", ["1", "2"], 1), ("both (keep 1 n:1) (all) | must 1 1=1", ["1", "2"], 2),
                ("meet 1 1 (all) (must 1 1=1)", ["1", "2"], 1), ("meet 1 1 (all) (all) | must 1 1=1", ["1", "2"], 2)):
            pipe = read_pipe(text)
            state = begun(pipe)
            for piece in pieces[:at]:
                state, now = fed(pipe, state, read_rows(piece))
            with self.assertRaises(Falls, msg=(text, pieces)):
                if at < len(pieces):
                    fed(pipe, state, read_rows(pieces[at]))
                else:
                    ended(pipe, state)


class OneByOne(unittest.TestCase):
    def test_two_ways_on_from_one_state(self):
        for kind, pipe in cases(200, seed=54):
            rows = lists_of(kind, 150)[-1]
            try:
                state, now = fed(pipe, begun(pipe), rows)
                before = repr(state)
                one = fed(pipe, state, rows[:1])
                rest = ended(pipe, state)
                other = fed(pipe, state, rows[1:])
                self.assertEqual(repr(state), before)
                self.assertEqual(fed(pipe, state, rows[:1]), one)
                self.assertEqual(ended(pipe, state), rest)
                self.assertEqual(fed(pipe, state, rows[1:]), other)
                self.assertEqual(ended(pipe, one[0]), ended(pipe, fed(pipe, state, rows[:1])[0]))
            except Falls:
                continue

    def test_what_is_handed_in_stays_and_what_is_told_is_the_askers_own(self):
        for text in [case[0] for case in FED]:
            pipe = read_pipe(text)
            for piece in [piece[0] for case in FED if case[0] == text for piece in case[3]]:
                rows = read_rows(piece)
                handed = copy.deepcopy(rows)
                state, now = fed(pipe, begun(pipe), rows)
                self.assertIsNot(now, rows)
                self.assertEqual(rows, handed)
                again = fed(pipe, begun(pipe), rows)
                now.append(None)
                rows.clear()
                rest = ended(pipe, state)
                self.assertEqual(again[0], state)
                rest.append(None)
                self.assertEqual(ended(pipe, state), rest[:-1])
                self.assertEqual(fed(pipe, begun(pipe), handed), again)

    def test_states_are_tuples_all_through(self):
        def check(part):
            self.assertIn(type(part), (tuple, int, str))
            if type(part) is tuple:
                for inner in part:
                    check(inner)
        for kind, pipe in cases(200, seed=55):
            check(begun(pipe))
            for rows in lists_of(kind, 60)[-3:]:
                try:
                    check(fed(pipe, begun(pipe), rows)[0])
                except Falls:
                    continue


if __name__ == "__main__":
    unittest.main()
