"""Two pipes compared (point 26)."""

import itertools
import unittest

from rowpipes.alike import compared
from rowpipes.coming import first_fall
from rowpipes.errors import Falling, NoPipe, TooMany
from rowpipes.kinds import is_of, read_kind
from rowpipes.pipetexts import read_pipe
from rowpipes.running import told
from rowpipes.shorter import shorter
from rowpipes.trees import follows
from samples import NAMES, ONE_ROW, cases, lists_of, rows_of
from test_coming import FALLS, MANY, REFUSED
from test_trees import LEAF, TREE_WORKERS, pairs
from treelook import leaves, parts, tree_holds

N, NN, NW = "n:1..3", "n:1..3 n:1..3", "n:1..3 w:a,b"

# Kind and two pipes that tell the same.
ALIKE = (
    (N, "all", "all"),
    (N, "keep 1 n:1..3", "all"),
    (N, "keep 1 n:4", "keep 1 n:5 | cut 1 1"),
    (N, "keep 1 n:1..2 | keep 1 n:2..3", "keep 1 n:2"),
    (N, "keep 1 n:2 | turn 1 2=5", "turn 1 2=5 | keep 1 n:5"),
    (N, "turn 1 1=5 | turn 1 5=7", "turn 1 1=7"),
    (N, "turn 1 1=1,2=2", "all"),
    (N, "turn 1 1=2,2=1 | turn 1 1=2,2=1", "all"),
    (N, "must 1 1=1,2=2,3=3", "all"),
    (N, "must 1 1=a,2=b,3=a", "must 1 3=a,2=b,1=a"),
    (N, "must 1 1=a,2=b,3=a | must 1 a=1,b=2", "turn 1 3=1"),
    (NN, "cut 2 1 | cut 2 1", "all"),
    (NN, "keep 1 n:1 | keep 2 n:2", "keep 2 n:2 | keep 1 n:1"),
    (NN, "keep 1 n:1 | keep 2 n:1 | cut 1 2", "keep 2 n:1 | keep 1 n:1 | cut 2 1"),
    (NN, "keep 1 n:1 | keep 2 n:1 | cut 1 2", "keep 2 n:1 | keep 1 n:1 | cut 1 1"),
    (NW, "cut 2 1 | keep 1 w:a", "keep 2 w:a | cut 2 1"),
    (NW, "must 1 1=a,2=a,3=a", "cut 2 2 | turn 1 b=a"),
    ("n:2 n:2", "cut 1", "cut 2"),
    ("n:..", "keep 1 n:..4,6.. | keep 1 n:5", "keep 1 n:-"),
    ("w:*", "keep 1 w:*-a | keep 1 w:*-b", "keep 1 w:*-a,b"),
    ("w:*", "turn 1 a=b | turn 1 b=a", "turn 1 b=a"),
    # heads behind unlike, but no row is told
    ("n:-", "must 1 1=a", "all"),
    ("n:-", "cut 1 1", "all"),
    ("n:1..3 w:-", "keep 1 n:1", "cut 2"),
    (N, "keep 1 n:9 | must 1 1=a", "keep 1 n:9"),
    (N, "keep 1 n:9 | cut 1 1", "keep 1 n:9"),
    (N, "keep 1 n:9 | must 1 1=a", "keep 1 n:9 | must 1 2=2 | cut 1 1 1"),
)

# Kind and two pipes that don't, and the rows of which they tell unlike ones, where there are few.
PARTED = (
    (N, "all", "keep 1 n:2..", [(1,)]),
    (N, "all", "keep 1 n:1,3", [(2,)]),
    (N, "keep 1 n:1..2", "keep 1 n:1", [(2,)]),
    (N, "keep 1 n:1", "keep 1 n:2", [(1,), (2,)]),
    (N, "turn 1 1=2", "all", [(1,)]),
    (N, "turn 1 1=2", "turn 1 1=3", [(1,)]),
    (N, "turn 1 1=2 | turn 1 2=1", "turn 1 2=1 | turn 1 1=2", [(1,), (2,)]),
    (N, "must 1 1=a,2=b,3=c", "must 1 1=a,2=b,3=b", [(3,)]),
    (N, "must 1 1=4,2=5,3=6", "must 1 1=4,2=5,3=6 | keep 1 n:..5", [(3,)]),
    (N, "all", "cut 1 1", [(1,), (2,), (3,)]),
    (N, "all", "must 1 1=a,2=b,3=c", [(1,), (2,), (3,)]),
    (N, "keep 1 n:2", "keep 1 n:2 | must 1 2=b", [(2,)]),
    (N, "keep 1 n:2", "keep 1 n:2 | cut 1 1", [(2,)]),
    ("n:1..2 n:1..2", "all", "cut 2 1", [(1, 2), (2, 1)]),
    ("n:1..2 n:1", "cut 1", "cut 2", [(2, 1)]),
    ("n:1 n:1..2", "cut 1", "cut 2", [(1, 2)]),
    ("n:1..2 n:2", "cut 1", "cut 2", [(1, 2)]),
    ("n:2 n:1..2", "cut 1", "cut 2", [(2, 1)]),
    ("n:1 n:2", "cut 1", "cut 2", [(1, 2)]),
    ("n:1..2 n:1", "turn 2 1=2", "cut 1 1", [(1, 1)]),
    ("n:1..2 n:1", "cut 1 1", "turn 2 1=2", [(1, 1)]),
    ("n:1..2 n:1", "turn 2 1=1", "cut 1 1", [(2, 1)]),
    ("n:1..2 n:3", "must 2 3=7 | cut 2", "cut 1", [(1, 3), (2, 3)]),
    ("n:1 n:1..3 n:1..3", "keep 2 n:2 | keep 3 n:3 | cut 2", "keep 3 n:3 | keep 2 n:1..2 | cut 2", [(1, 1, 3)]),
    ("n:..", "keep 1 n:..4,6..", "all", [(5,)]),
    ("w:*", "keep 1 w:*-zzzzzzzz", "all", [("zzzzzzzz",)]),
    ("w:*", "turn 1 a=b", "all", [("a",)]),
)

EIGHT = "1=1,2=2,3=3,4=4,5=5,6=6,7=7,8=8"
FOUR = "1=1,2=2,3=3,4=4"
SEVEN = EIGHT[:-4]
ENDLESS = "n:.. n:.. n:.. n:.."


def idle_turns(kind, many):
    """A turn of each column that changes so many cells to what they are."""
    return tuple(
        ("turn", column, tuple((cell, cell) for cell in ((0, 1, 2, 3) if told_set[0] == "n" else ("a", "b", "c", "d"))[:many]))
        for column, told_set in enumerate(kind, start=1))


def verdict(kind, one, other):
    return compared(read_kind(kind), read_pipe(one), read_pipe(other))


class ByTree(unittest.TestCase):
    def check_alike(self, kind, one, other, found):
        self.assertIs(type(found), tuple)
        self.assertEqual((len(found), found[0]), (2, "alike"), (kind, one, other, found))
        self.assertTrue(follows(kind, one, other, found[1]), (kind, one, other, found))
        self.assertTrue(tree_holds(kind, one, other, found[1]), (kind, one, other, found))
        self.assertLessEqual(leaves(found[1]), 200)
        for row in rows_of(kind)[:100]:
            self.assertEqual(told(one, [row]), told(other, [row]), (kind, one, other))

    def check_parted(self, kind, one, other, found):
        self.assertIs(type(found), tuple)
        self.assertEqual((len(found), found[0]), (2, "parted"), (kind, one, other, found))
        self.assertIs(type(found[1]), tuple)
        self.assertTrue(is_of(kind, found[1]), (kind, found))
        self.assertNotEqual(told(one, [found[1]]), told(other, [found[1]]), (kind, one, other, found))

    def test_pipes_that_tell_the_same(self):
        for texts in ALIKE:
            kind, one, other = read_kind(texts[0]), read_pipe(texts[1]), read_pipe(texts[2])
            with self.subTest(texts=texts):
                self.check_alike(kind, one, other, compared(kind, one, other))
                self.check_alike(kind, other, one, compared(kind, other, one))
                for pipe in (one, other):
                    self.check_alike(kind, pipe, pipe, compared(kind, pipe, pipe))

    def test_pipes_that_do_not(self):
        for kind_text, one_text, other_text, rows in PARTED:
            kind, one, other = read_kind(kind_text), read_pipe(one_text), read_pipe(other_text)
            with self.subTest(kind=kind_text, one=one_text, other=other_text):
                for found in (compared(kind, one, other), compared(kind, other, one)):
                    self.check_parted(kind, one, other, found)
                    self.assertIn(found[1], rows)

    def test_many_pipes(self):
        seen = {"alike": 0, "parted": 0, "split": 0}
        for kind, one, other, chance in pairs(2000, 94) + pairs(500, 95, 6):
            found = compared(kind, one, other)
            if found[0] == "alike":
                self.check_alike(kind, one, other, found)
                seen["split"] += found[1] != LEAF
            else:
                self.check_parted(kind, one, other, found)
            self.assertEqual(compared(kind, other, one)[0], found[0])
            seen[found[0]] += 1
        self.assertGreater(min(seen.values()), 300, seen)

    def test_exchanges_that_change_nothing(self):
        seen = 0
        for kind, pipe in cases(800, 4, names=TREE_WORKERS, seed=96):
            if first_fall(kind, pipe) is not None:
                continue
            wide = tuple(range(1, len(kind) + 1))
            same = [shorter(kind, pipe)[0], (("cut", wide),) + pipe, (("cut", wide[::-1]), ("cut", wide[::-1])) + pipe]
            same += [(("keep", column, told_set),) + pipe for column, told_set in enumerate(kind, start=1)]
            same += [idle_turns(kind, 2)[column:column + 1] + pipe for column in range(len(kind))]
            for at, worker in enumerate(pipe):
                if worker[0] == "keep":
                    same.append(pipe[:at] + (worker,) + pipe[at:])
                    if pipe[at + 1:] and pipe[at + 1][0] == "keep":
                        same.append(pipe[:at] + (pipe[at + 1], worker) + pipe[at + 2:])
            for other in same:
                if parts(kind, (pipe, other)) <= 200:
                    self.check_alike(kind, pipe, other, compared(kind, pipe, other))
                    seen += 1
        self.assertGreater(seen, 2000)


class Many(unittest.TestCase):
    def test_never_where_the_parts_are_few(self):
        seen = {"few": 0, "some": 0}
        for kind, one, other, chance in pairs(1500, 97, 6):
            turns = idle_turns(kind, 4)
            one, other = turns[:chance.randint(0, 3)] + one, turns[chance.randint(0, 5):] + other
            many = parts(kind, (one, other))
            if many <= 200:
                self.assertIn(compared(kind, one, other)[0], ("alike", "parted"))
                seen["some" if many > 40 else "few"] += 1
        self.assertGreater(min(seen.values()), 50, seen)

    def test_two_hundred_leaves_and_one_more(self):
        two = f"turn 1 {FOUR} | turn 2 {FOUR}"
        for one, other, many in (
                (f"{two} | turn 3 {SEVEN}", f"{two} | turn 3 {SEVEN}", 200), (two, f"turn 3 {SEVEN}", 200), (f"turn 3 {SEVEN}", two, 200),
                (f"{two} | turn 3 {SEVEN}", "all", 200), (f"turn 1 {EIGHT}", f"turn 1 {EIGHT} | turn 2 {EIGHT}", 81)):
            kind = read_kind(ENDLESS)
            found = compared(kind, read_pipe(one), read_pipe(other))
            self.assertEqual((found[0], leaves(found[1])), ("alike", many))
            self.assertTrue(follows(kind, read_pipe(one), read_pipe(other), found[1]))
        for one, other in (
                (two, f"turn 3 {EIGHT}"), (f"turn 3 {EIGHT}", two), (f"{two} | turn 3 {EIGHT}", "all"), ("all", f"{two} | turn 3 {EIGHT}"),
                (f"turn 1 {EIGHT} | turn 2 {EIGHT}", f"turn 3 {FOUR}"),
                # one leaf for the rows that are left out, two hundred for the others
                (f"keep 4 n:1.. | {two} | turn 3 {SEVEN}", f"keep 4 n:1.. | {two} | turn 3 {SEVEN}")):
            with self.assertRaises(TooMany, msg=(one, other)):
                verdict(ENDLESS, one, other)

    def test_a_tree_as_deep_as_it_has_leaves(self):
        sets = ["keep 1 n:.." + str(number) for number in range(199, 0, -1)]
        kind = read_kind("n:1..200")
        one = read_pipe(" | ".join(sets))
        found = compared(kind, one, read_pipe("keep 1 n:1"))
        self.assertEqual(found[0], "alike")
        self.assertTrue(follows(kind, one, read_pipe("keep 1 n:1"), found[1]))

    def test_too_many_ways_of_other_pipes(self):
        for kind, text in MANY:
            for one, other in ((text, "apart"), ("apart", text), (text, text), ("all", text)):
                with self.assertRaises(TooMany, msg=text):
                    verdict(kind, one, other)


class BySteps(unittest.TestCase):
    def check(self, kind, one, other):
        found = compared(kind, one, other)
        (reached, steps), (other_reached, other_steps) = shorter(kind, one), shorter(kind, other)
        self.assertEqual(found, ("steps", steps, other_steps) if reached == other_reached else ("open",), (kind, one, other))
        return found[0]

    def test_pipes_of_other_workers(self):
        for kind, one, other, expected in (
                (N, "sort 1", "sort 1", "steps"), (N, "sort 1 | sort 1", "sort 1", "steps"), (N, "sort 1", "apart", "open"),
                (NN, "same 1 1", "all", "steps"), (NN, "same 1 2", "same 2 1", "open"), (NN, "cut 2 1 | same 1 2 | cut 2 1", "same 2 1", "steps"),
                (N, "all", "both (all) (first 0)", "steps"), (N, "both (first 0) (keep 1 n:1)", "keep 1 n:1", "steps"),
                (N, "keep 1 n:1", "sort 1 | keep 1 n:1", "open"), (N, "keep 1 n:2 | sort 1", "sort 1 | keep 1 n:2", "steps"),
                (N, "keep 1 n:2 | sort 1", "sort 1 | keep 1 n:3", "open"), (N, "walk 1 p p:*=p", "walk 1 p p:*=p", "steps"),
                (N, "first 0", "keep 1 n:-", "open"), (N, "number", "number | cut 1 2", "steps"), (N, "count", "count 1", "open"),
                (N, "meet 1 1 (all) (keep 1 n:..)", "meet 1 1 (cut 1) (all)", "steps"), ("n:-", "number", "count 1", "open"),
                (N, "both (apart) (all)", "both (all) (apart)", "open")):
            self.assertEqual(self.check(read_kind(kind), read_pipe(one), read_pipe(other)), expected, (one, other))

    def test_many_pipes(self):
        seen = {"steps": 0, "open": 0}
        for names, seed in ((ONE_ROW + ("sort", "apart", "first"), 98), (NAMES, 99)):
            for kind, pipe in cases(500, 3, names=names, seed=seed):
                if first_fall(kind, pipe) is not None or all(worker[0] in TREE_WORKERS for worker in pipe):
                    continue
                others = [pipe, shorter(kind, pipe)[0], pipe + (("apart",), ("apart",)), pipe + (("apart",),)]
                for one, other in itertools.product(others[:3], others):
                    # The shorter one of a pipe with others may have none: then trees are told.
                    if all(worker[0] in TREE_WORKERS for worker in one + other):
                        continue
                    found = self.check(kind, one, other)
                    seen[found] += 1
                    if found == "steps":
                        for rows in lists_of(kind, 40)[-12:]:
                            self.assertEqual(told(one, rows), told(other, rows), (kind, one, other))
                self.assertEqual(compared(kind, pipe, pipe)[0], "steps")
        self.assertGreater(min(seen.values()), 300, seen)


class Refused(unittest.TestCase):
    def refusal(self, refused, kind, one, other):
        with self.assertRaises(refused, msg=(one, other)) as caught:
            verdict(kind, one, other)
        return caught.exception

    def test_no_pipe_the_first_ones_ahead(self):
        for kind, text, place, why in REFUSED:
            for one, other in ((text, "all"), ("all", text), (text, text), ("sort 1", text), (text, "cut 9")):
                found = self.refusal(NoPipe, kind, one, other)
                self.assertEqual((found.place, found.why), (place, why))
            found = self.refusal(NoPipe, kind, "cut 9", text)
            self.assertEqual((found.place, found.why), ((0,), "column"))

    def test_no_pipe_ahead_of_falling(self):
        found = self.refusal(NoPipe, N, "must 1 1=1", "apart | cut 2")
        self.assertEqual((found.place, found.why), ((1,), "column"))
        found = self.refusal(NoPipe, N, "apart | cut 2", "must 1 1=1")
        self.assertEqual((found.place, found.why), ((1,), "column"))

    def test_falling_the_first_ones_ahead(self):
        for kind_text, text, place in FALLS:
            if place is None:
                continue
            kind, pipe = read_kind(kind_text), read_pipe(text)
            for one, other in ((text, "all"), ("all", text), (text, text), ("apart", text), (text, "apart")):
                found = self.refusal(Falling, kind_text, one, other)
                self.assertEqual((found.place, found.rows), first_fall(kind, pipe), (one, other))
                self.assertEqual(found.place, place)
        for one, other, place in (("apart | must 1 1=1", "must 1 2=2", (1,)), ("must 1 2=2", "apart | must 1 1=1", (0,))):
            self.assertEqual(self.refusal(Falling, N, one, other).place, place)

    def test_what_is_handed_in_stays_and_what_is_told_is_the_askers_own(self):
        by_steps = ((N, "sort 1 | sort 1", "apart | sort 1"), (N, "sort 1 | sort 1", "sort 1"))
        for kind_text, one_text, other_text in ALIKE + tuple(case[:3] for case in PARTED) + by_steps:
            kind, one, other = read_kind(kind_text), read_pipe(one_text), read_pipe(other_text)
            found = compared(kind, one, other)
            self.assertEqual((kind, one, other), (read_kind(kind_text), read_pipe(one_text), read_pipe(other_text)))
            self.assertEqual(compared(kind, one, other), found)
            kind.clear()
            self.assertEqual(compared(read_kind(kind_text), one, other), found)
        found = verdict(N, "sort 1 | sort 1", "sort 1")
        found[1].clear()
        found[2].append(None)
        self.assertEqual(len(verdict(N, "sort 1 | sort 1", "sort 1")[1]), 1)
        self.assertEqual(verdict(N, "sort 1 | sort 1", "sort 1")[2], [])


if __name__ == "__main__":
    unittest.main()
