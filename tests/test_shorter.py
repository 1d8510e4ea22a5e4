"""Counted, and the shorter pipe with its steps (point 24)."""

import itertools
import unittest

from rowpipes.coming import first_fall
from rowpipes.errors import Falling, NoPipe, NoStep, TooMany
from rowpipes.kinds import is_of, read_kind
from rowpipes.pipetexts import read_pipe, show_pipe
from rowpipes.places import places
from rowpipes.running import told
from rowpipes.shorter import counted, shorter
from rowpipes.steps import stepped
from samples import NAMES, ONE_ROW, cases, lists_of
from test_coming import FALLS, FEW, MANY, REFUSED
from test_steps import DUE, RULES

N, NN, NW, NWN = "n:1..3", "n:1..3 n:1..3", "n:1..3 w:a,b", "n:1..3 w:a,b n:.."

COUNTED = (
    ("all", (0, 0)),
    ("keep 1 n:1", (1, 0)),
    ("same 1 2 | cut 1 | turn 1 1=2 | must 1 1=2 | walk 1 p -", (5, 0)),
    ("apart | count | sum of 1 | number | first 1", (5, 0)),
    ("sort 1", (1, 1)),
    ("both (all) (all)", (1, 1)),
    ("meet 1 1 (all) (all)", (1, 1)),
    ("sort 1 | sort 2 | apart", (3, 2)),
    ("both (sort 1) (apart | first 1)", (4, 2)),
    ("meet 1 1 (keep 1 n:1 | cut 1) (cut 1)", (4, 1)),
    ("both (both (sort 1) (both (all) (count))) (meet 1 1 (all) (cut 1)) | sort 1", (8, 6)),
)

# Kind, pipe, the shorter one, where just one can be told.
SHORTER = (
    (N, "keep 1 n:0..", "all"),
    (N, "sort 1 | sort 1", "sort 1"),
    (N, "sort 1 | keep 1 n:2 | apart | apart", "keep 1 n:2 | sort 1 | apart"),
    (NN, "cut 2 1 | same 1 2 | cut 2 1", "same 2 1"),
    (NN, "cut 2 1 | cut 2 1", "all"),
    (NN, "cut 1 1 | same 1 2 | keep 2 n:2..", "keep 1 n:2.. | cut 1 1"),
    (N, "turn 1 4=5 | keep 1 n:1..3 | must 1 1=1,2=2,3=3", "all"),
    (NW, "turn 1 1=2 | keep 2 w:a | sort 1 | keep 1 n:2", "keep 2 w:a | turn 1 1=2 | keep 1 n:2 | sort 1"),
    (N, "both (keep 1 n:1 | keep 1 n:2) (apart)", "apart"),
    (N, "both (keep 1 n:1 | keep 1 n:2) (apart) | apart | first 2 | first 3", "apart | first 2"),
    (N, "both (both (first 0) (both (sort 1) (first 0))) (first 0)", "sort 1"),
    (N, "both (sort 1 | keep 1 n:2 | keep 1 n:..2) (cut 1)", "both (keep 1 n:2 | sort 1) (all)"),
    (NW, "meet 1 1 (cut 2 1 | keep 2 n:1 | cut 2 1) (keep 2 w:a,b)", "meet 1 1 (keep 1 n:1) (all)"),
    (N, "first 5 | first 1 | sort 1 | apart | number | sort 2", "first 1 | number"),
    (N, "number | must 1 1=1,2=2,3=4 | keep 2 n:1", "number | must 1 1=1,2=2,3=4 | keep 2 n:1"),
    ("n:-", "must 1 1=a | keep 1 w:a", "all"),
)

# At these no step is due.
SHORTEST = (
    (N, "all"), (N, "keep 1 n:2"), (NN, "same 1 2"), (NN, "cut 2 1"), (N, "turn 1 1=2"), (N, "must 1 1=a,2=b,3=c"),
    (N, "walk 1 p p:*=p"), (N, "sort 1"), (N, "apart"), (N, "count"), (N, "sum of 1"), (N, "number"), (N, "first 3"),
    (N, "both (all) (all)"), (N, "meet 1 1 (all) (all)"), (N, "first 0"), (NN, "keep 1 n:1 | keep 2 n:1"),
    (NW, "keep 1 n:2 | cut 2 | turn 1 a=b | sort 1 | number | both (first 1) (first 2 | keep 2 n:2)"),
)


class Counted(unittest.TestCase):
    def test_workers_and_stores(self):
        for text, expected in COUNTED:
            found = counted(read_pipe(text))
            self.assertEqual(found, expected, text)
            self.assertIs(type(found), tuple)

    def test_each_sort_of_worker(self):
        for kind, pipe in cases(300, seed=81):
            text = show_pipe(pipe).replace("(", " ").replace(")", " ").split()
            self.assertEqual(counted(pipe), (
                sum(word in NAMES for word in text), sum(word in ("sort", "both", "meet") for word in text)))


class Shorter(unittest.TestCase):
    def check(self, kind, pipe):
        """Whether the steps lead to the pipe, and none can be done at it."""
        found = shorter(kind, pipe)
        self.assertIs(type(found), tuple)
        behind, steps = found
        self.assertIs(type(steps), list)
        reached = pipe
        for step in steps:
            self.assertIs(type(step), tuple)
            before = counted(reached)
            reached = stepped(kind, reached, step)
            self.assertTrue(all(new <= old for new, old in zip(counted(reached), before)), (pipe, step))
        self.assertEqual(reached, behind, pipe)
        for step in itertools.product(RULES, places(behind)):
            with self.assertRaises(NoStep, msg=(pipe, behind, step)):
                stepped(kind, behind, step)
        return behind, steps

    def test_where_one_pipe_alone_can_be_told(self):
        for kind, text, expected in SHORTER:
            behind, steps = self.check(read_kind(kind), read_pipe(text))
            self.assertEqual(show_pipe(behind), expected, text)
            self.assertEqual(steps == [], text == expected)

    def test_no_step_is_due(self):
        for kind, text in SHORTEST:
            self.assertEqual(shorter(read_kind(kind), read_pipe(text)), (read_pipe(text), []), text)

    def test_pipes_at_which_a_step_is_due(self):
        for rule, listed in DUE.items():
            for kind_text, text, place, due in listed:
                kind, pipe = read_kind(kind_text), read_pipe(text)
                behind, steps = self.check(kind, pipe)
                if due is not None:
                    self.assertGreater(len(steps), 0, text)

    def test_many_pipes(self):
        seen = {"steps": 0, "none": 0, "stores": 0}
        one_row = ONE_ROW + ("sort", "apart", "first")
        for names, seed in ((one_row, 82), (one_row + ("both", "number"), 83), (ONE_ROW + ("meet", "both", "count"), 84), (NAMES, 85)):
            for kind, pipe in cases(500, 3, names=names, seed=seed):
                if first_fall(kind, pipe) is not None:
                    continue
                behind, steps = self.check(kind, pipe)
                for rows in lists_of(kind, 80)[-30:]:
                    self.assertEqual(told(behind, rows), told(pipe, rows), (kind, pipe, behind))
                self.assertTrue(all(new <= old for new, old in zip(counted(behind), counted(pipe))))
                self.assertEqual(shorter(kind, behind), (behind, []))
                self.assertIsNone(first_fall(kind, behind))
                seen["steps" if steps else "none"] += 1
                seen["stores"] += counted(behind)[1] < counted(pipe)[1]
        self.assertGreater(min(seen.values()), 60, seen)

    def test_two_hundred_ways(self):
        for kind, text in FEW:
            self.check(read_kind(kind), read_pipe(text))


class Refused(unittest.TestCase):
    def test_no_pipe(self):
        for kind, text, place, why in REFUSED:
            with self.assertRaises(NoPipe, msg=text) as caught:
                shorter(read_kind(kind), read_pipe(text))
            self.assertEqual((caught.exception.place, caught.exception.why), (place, why))

    def test_falling(self):
        for kind_text, text, place in FALLS:
            kind, pipe = read_kind(kind_text), read_pipe(text)
            if place is None:
                shorter(kind, pipe)
                continue
            with self.assertRaises(Falling, msg=text) as caught:
                shorter(kind, pipe)
            found = caught.exception
            self.assertEqual((found.place, found.rows), first_fall(kind, pipe))
            self.assertEqual(found.place, place)
            self.assertTrue(found.rows and all(is_of(kind, row) for row in found.rows))

    def test_too_many(self):
        for kind, text in MANY:
            with self.assertRaises(TooMany, msg=text):
                shorter(read_kind(kind), read_pipe(text))

    def test_what_is_handed_in_stays_and_what_is_told_is_the_askers_own(self):
        for kind_text, text, expected in SHORTER:
            kind, pipe = read_kind(kind_text), read_pipe(text)
            behind, steps = shorter(kind, pipe)
            again = list(steps)
            steps.append(None)
            self.assertEqual((kind, pipe), (read_kind(kind_text), read_pipe(text)))
            self.assertEqual(shorter(kind, pipe), (behind, again))
            steps.clear()
            kind.clear()
            self.assertEqual(shorter(read_kind(kind_text), pipe), (behind, again))
            counted(pipe)
            self.assertEqual(pipe, read_pipe(text))


if __name__ == "__main__":
    unittest.main()
