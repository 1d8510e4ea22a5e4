"""Heads, pipes that are put together, loose places (point 11)."""

import itertools
import random
import unittest

from rowpipes.errors import Falls, NoPipe, NoPlace
from rowpipes.heads import head_behind, is_loose
from rowpipes.pipetexts import read_pipe
from rowpipes.places import places
from rowpipes.running import told
from samples import NAMES, cells_of, some_pipe, some_worker

SIX = "nwtnwt"
SEVEN = ("cut", (1, 1, 1, 1, 1, 1, 1))

# Head, pipe, head behind it.
PUT_TOGETHER = (
    ("n", "all", "n"),
    ("w", "all", "w"),
    ("t", "all", "t"),
    (SIX, "all", SIX),
    ("n", "keep 1 n:-", "n"),
    ("nwt", "keep 1 n:.. | keep 2 w:* | keep 3 n:5", "nwt"),
    ("nwnwn", "same 1 3 | same 2 4 | same 5 5 | same 2 2", "nwnwn"),
    ("nwt", "cut 3", "t"),
    ("nwt", "cut 3 1 2", "tnw"),
    ("nwt", "cut 2 2 3 3 1 1", "wwttnn"),
    ("nw", "turn 1 1=2,2=1 | turn 2 a=b", "nw"),
    ("nw", "must 1 1=2,2=1 | must 2 a=b", "nw"),
    ("nw", "must 1 1=a,2=a | must 2 a=1,b=2", "wn"),
    ("nwt", "must 2 a=1 | must 1 1=a | must 1 a=2", "nnt"),
    ("n", "walk 1 a -", "nw"),
    ("n", "walk 1 a a:1=b,b:*=a", "nw"),
    ("w", "walk 1 a a:red=b,b:*=a", "ww"),
    ("tnwnt", "walk 2 a a:-1=b", "tnwntw"),
    ("n", "keep 1 n:1 | walk 1 a -", "nw"),
    ("n", "same 1 1 | walk 1 a -", "nw"),
    ("n", "cut 1 | walk 1 a -", "nw"),
    ("n", "turn 1 1=1 | walk 1 a -", "nw"),
    ("n", "must 1 1=1 | walk 1 a -", "nw"),
    ("nt", "keep 2 n:1 | walk 1 a -", "ntw"),
    (SIX, "sort 6- 5 4- 3 2- 1", SIX),
    (SIX, "apart", SIX),
    (SIX, "count", "t"),
    (SIX, "count 6", "tt"),
    (SIX, "count 2 1 2", "wnwt"),
    (SIX, "count 1 2 3 4 5", "nwtnwt"),
    (SIX, "sum of 1", "t"),
    (SIX, "sum of 3", "t"),
    (SIX, "sum 2 3 of 4", "wtt"),
    (SIX, "sum 6 5 4 2 1 of 6", "twnwnt"),
    ("nwtnw", "number", "nwtnwt"),
    ("n", "number | number | number | number | number", "nttttt"),
    (SIX, "first 0", SIX),
    (SIX, "first 60", SIX),
    (SIX, "both (all) (all)", SIX),
    ("nw", "both (cut 2 1) (must 1 1=a | must 2 b=3)", "wn"),
    ("nw", "both (count 2) (cut 2 | number)", "wt"),
    ("n", "meet 1 1 (all) (all)", "n"),
    ("nwt", "meet 1 1 (all) (all)", "nwtwt"),
    ("nwt", "meet 2 2 (all) (cut 1 2)", "nwtn"),
    ("nwt", "meet 1 3 (cut 2) (cut 3 1 2 1)", "wtnn"),
    ("nwn", "meet 1 3 (all) (all)", "nwnnw"),
    ("nw", "meet 1 1 (must 1 1=b) (cut 2)", "ww"),
    ("nnw", "meet 3 3 (all) (all) | cut 5 1", "nn"),
    ("n", "meet 1 1 (keep 1 n:1 | same 1 1 | cut 1) (turn 1 1=1 | must 1 1=1)", "n"),
    ("n", "meet 1 1 (turn 1 1=1 | must 1 1=1) (keep 1 n:1 | same 1 1 | cut 1)", "n"),
    ("n", "both (both (both (number) (count 1)) (walk 1 a - | cut 1 | number)) (sum 1 of 1) | keep 2 n:.. | count 2", "tt"),
    ("nw", "must 1 1=a,2=b | same 1 2 | walk 2 p p:*=p | both (cut 3 1) (cut 1 2 | apart) | sort 1 | count 2 | first 3 | "
     "number", "wtt"),
)

# Head, pipe, place, reason.
REFUSED = (
    # column
    ("n", "keep 2 n:..", (0,), "column"),
    ("nwtnwt", "keep 7 n:..", (0,), "column"),
    ("nn", "same 3 1", (0,), "column"),
    ("nn", "same 1 3", (0,), "column"),
    ("nn", "cut 1 2 3", (0,), "column"),
    ("nn", "cut 12", (0,), "column"),
    ("n", "turn 2 1=1", (0,), "column"),
    ("n", "must 2 1=1", (0,), "column"),
    ("n", "walk 2 a -", (0,), "column"),
    ("n", "sort 1 2", (0,), "column"),
    ("n", "sort 2- 1", (0,), "column"),
    ("n", "count 2", (0,), "column"),
    ("n", "count 1 1 2", (0,), "column"),
    ("n", "sum of 2", (0,), "column"),
    ("n", "sum 2 of 1", (0,), "column"),
    ("n", "meet 2 1 (all) (all)", (0,), "column"),
    ("n", "meet 1 2 (all) (all)", (0,), "column"),
    ("nn", "meet 2 1 (cut 1) (all)", (0,), "column"),
    ("nn", "meet 1 2 (all) (cut 1)", (0,), "column"),
    ("nn", "cut 1 | same 1 2", (1,), "column"),
    ("nn", "count 1 | keep 3 n:..", (1,), "column"),
    # sort
    ("n", "keep 1 w:*", (0,), "sort"),
    ("w", "keep 1 n:..", (0,), "sort"),
    ("t", "keep 1 w:*", (0,), "sort"),
    ("w", "keep 1 n:-", (0,), "sort"),
    ("nw", "same 1 2", (0,), "sort"),
    ("nt", "same 1 2", (0,), "sort"),
    ("tt", "same 1 2", (0,), "sort"),
    ("t", "same 1 1", (0,), "sort"),
    ("wt", "same 2 1", (0,), "sort"),
    ("n", "turn 1 a=1", (0,), "sort"),
    ("n", "turn 1 1=a", (0,), "sort"),
    ("n", "turn 1 1=1,2=2,3=3,4=a", (0,), "sort"),
    ("n", "turn 1 1=1,a=2", (0,), "sort"),
    ("w", "turn 1 a=1", (0,), "sort"),
    ("w", "turn 1 1=a", (0,), "sort"),
    ("t", "turn 1 1=1", (0,), "sort"),
    ("n", "must 1 a=1", (0,), "sort"),
    ("n", "must 1 1=1,a=1", (0,), "sort"),
    ("w", "must 1 1=1", (0,), "sort"),
    ("n", "must 1 1=1,2=a", (0,), "sort"),
    ("w", "must 1 a=b,b=c,c=1", (0,), "sort"),
    ("t", "must 1 1=1", (0,), "sort"),
    ("n", "walk 1 a a:b=c", (0,), "sort"),
    ("n", "walk 1 a a:1=b,a:*=b,b:c=a", (0,), "sort"),
    ("w", "walk 1 a a:1=b", (0,), "sort"),
    ("t", "walk 1 a a:1=b", (0,), "sort"),
    ("t", "walk 1 a a:*=b", (0,), "sort"),
    ("t", "walk 1 a -", (0,), "sort"),
    ("nw", "sum 1 of 2", (0,), "sort"),
    ("n", "both (all) (number)", (0,), "sort"),
    ("nw", "both (cut 1) (cut 2)", (0,), "sort"),
    ("nt", "both (cut 1) (cut 2)", (0,), "sort"),
    ("n", "both (must 1 1=a) (all)", (0,), "sort"),
    ("nw", "meet 1 2 (all) (all)", (0,), "sort"),
    ("nt", "meet 2 2 (all) (all)", (0,), "sort"),
    ("nt", "meet 1 2 (all) (all)", (0,), "sort"),
    ("nt", "meet 2 1 (all) (all)", (0,), "sort"),
    ("nw", "meet 1 1 (must 1 1=a) (all)", (0,), "sort"),
    ("n", "number | turn 2 1=1", (1,), "sort"),
    ("n", "count | must 1 1=1", (1,), "sort"),
    ("n", "sum 1 of 1 | same 1 2", (1,), "sort"),
    ("n", "must 1 1=a | keep 1 n:..", (1,), "sort"),
    ("n", "walk 1 p p:*=p | sum of 2", (1,), "sort"),
    # wide
    ("nnnnnn", "walk 1 a a:*=a", (0,), "wide"),
    ("nnnnnn", "number", (0,), "wide"),
    ("nnnn", "meet 1 1 (all) (all)", (0,), "wide"),
    ("nnnnnn", "meet 1 2 (all) (cut 1 2)", (0,), "wide"),
    ("nnnnn", "number | number", (1,), "wide"),
    # rows
    ("n", "sort 1 | walk 1 a -", (1,), "rows"),
    ("n", "apart | walk 1 a -", (1,), "rows"),
    ("n", "number | walk 1 a -", (1,), "rows"),
    ("n", "count 1 | walk 1 a -", (1,), "rows"),
    ("n", "sum 1 of 1 | walk 1 a -", (1,), "rows"),
    ("n", "first 1 | walk 1 a -", (1,), "rows"),
    ("n", "first 0 | walk 1 a -", (1,), "rows"),
    ("n", "walk 1 a - | walk 1 a -", (1,), "rows"),
    ("n", "both (all) (all) | walk 1 a -", (1,), "rows"),
    ("n", "meet 1 1 (all) (all) | walk 1 a -", (1,), "rows"),
    ("n", "apart | both (walk 1 a -) (walk 1 a -)", (1, 0, 0), "rows"),
    ("n", "both (walk 1 a -) (apart | walk 1 a -)", (0, 1, 1), "rows"),
    ("n", "both (both (all) (walk 1 a -)) (all)", (0, 0, 0), "sort"),
    ("n", "keep 1 n:1 | both (apart | both (walk 1 a -) (all)) (all)", (1, 0, 1, 0, 0), "rows"),
    ("n", "meet 1 1 (apart) (all)", (0,), "rows"),
    ("n", "meet 1 1 (all) (apart)", (0,), "rows"),
    ("n", "meet 1 1 (sort 1) (all)", (0,), "rows"),
    ("n", "meet 1 1 (all) (count 1)", (0,), "rows"),
    ("n", "meet 1 1 (sum 1 of 1) (all)", (0,), "rows"),
    ("n", "meet 1 1 (number) (all)", (0,), "rows"),
    ("n", "meet 1 1 (all) (first 0)", (0,), "rows"),
    ("n", "meet 1 1 (first 1) (all)", (0,), "rows"),
    ("n", "meet 1 1 (walk 1 a -) (all)", (0,), "rows"),
    ("n", "meet 1 1 (all) (both (all) (all))", (0,), "rows"),
    ("n", "meet 1 1 (meet 1 1 (all) (all)) (all)", (0,), "rows"),
    ("n", "meet 1 1 (cut 1 | keep 1 n:1 | apart) (all)", (0,), "rows"),
    # loose
    ("nt", "keep 2 n:1.. | must 1 1=1", (1,), "loose"),
    ("n", "number | keep 2 n:1 | cut 1 | apart | must 1 1=1", (4,), "loose"),
    ("n", "walk 1 a a:*=a | first 1 | must 1 1=1", (2,), "loose"),
    ("n", "both (all) (all) | first 60 | must 1 1=1", (2,), "loose"),
    ("n", "meet 1 1 (all) (all) | sort 1 | first 1 | must 1 1=1", (3,), "loose"),
    ("n", "walk 1 a a:*=a | meet 1 1 (all) (all) | must 1 1=1", (2,), "loose"),
    ("n", "first 1 | meet 1 1 (all) (all) | must 1 1=1", (2,), "loose"),
    ("n", "both (walk 1 a - | first 2 | cut 1) (all) | must 1 1=1", (1,), "loose"),
    ("n", "both (walk 1 a - | first 2 | must 1 1=1) (all)", (0, 0, 2), "loose"),
    ("n", "both (first 1) (all) | meet 1 1 (all) (all) | must 1 1=1", (2,), "loose"),
    ("n", "walk 1 a - | both (both (first 1) (all)) (all) | must 1 1=1", (2,), "loose"),
    ("nt", "keep 2 n:1 | both (must 1 1=1) (all)", (1, 0, 0), "loose"),
    ("nt", "keep 2 n:1 | meet 1 1 (all) (must 1 1=1)", (1, 1, 0), "loose"),
    # The first worker in running order, both and meet behind their branches.
    ("n", "keep 2 n:.. | keep 1 w:*", (0,), "column"),
    ("n", "keep 1 w:* | keep 2 n:..", (0,), "sort"),
    ("n", "both (number) (keep 2 n:..)", (0, 1, 0), "column"),
    ("n", "both (all) (apart | keep 1 w:* | keep 7 n:..)", (0, 1, 1), "sort"),
    ("n", "meet 2 2 (apart) (keep 1 w:*)", (0, 1, 0), "sort"),
    ("n", "meet 2 2 (cut 2) (keep 1 w:*)", (0, 0, 0), "column"),
    ("n", "both (both (all) (number)) (keep 2 n:..)", (0, 0, 0), "sort"),
    ("n", "both (number) (all) | keep 9 n:..", (0,), "sort"),
    ("n", "meet 1 1 (apart) (all) | keep 9 n:..", (0,), "rows"),
    ("n", "both (both (both (all) (cut 2)) (keep 3 n:1)) (keep 2 n:1)", (0, 0, 0, 0, 0, 1, 0), "column"),
    # Of it the first reason.
    ("nnnnnn", "walk 7 a a:b=a", (0,), "column"),
    ("nnnnnn", "walk 1 a a:b=a", (0,), "sort"),
    ("nnnnnn", "apart | walk 1 a a:1=a", (1,), "wide"),
    ("nnnnnn", "apart | walk 1 a a:b=a", (1,), "sort"),
    ("nnnnnw", "meet 1 7 (all) (apart)", (0,), "column"),
    ("nnnnnw", "meet 1 6 (all) (apart)", (0,), "sort"),
    ("nnnnnw", "meet 1 1 (all) (apart)", (0,), "wide"),
    ("nt", "keep 2 n:1 | must 3 a=1,b=c", (1,), "column"),
    ("nt", "keep 2 n:1 | must 1 1=1,2=c", (1,), "sort"),
    ("nt", "keep 2 n:1 | must 2 1=1", (1,), "sort"),
    ("nt", "same 2 3", (0,), "column"),
    ("nw", "sum 3 of 2", (0,), "column"),
)

# Head, pipe, the loose places.
LOOSE = (
    ("n", "all", []),
    ("t", "all", []),
    # a keep of a tally
    ("t", "keep 1 n:..", [(1,)]),
    ("nt", "keep 1 n:..", []),
    ("wt", "keep 1 w:* | cut 1", []),
    ("nt", "keep 2 n:.. | cut 1 | sort 1", [(1,), (2,), (3,)]),
    ("n", "count | keep 1 n:3 | apart", [(2,), (3,)]),
    ("n", "number | both (keep 2 n:1) (all) | apart", [(1, 0, 1), (2,), (3,)]),
    ("n", "number | both (all) (keep 2 n:1) | apart", [(1, 1, 1), (2,), (3,)]),
    ("nt", "meet 1 1 (all) (keep 2 n:1)", [(0, 1, 1), (1,)]),
    ("nt", "meet 1 1 (keep 2 n:1) (all)", [(0, 0, 1), (1,)]),
    ("nt", "keep 2 n:1 | both (all) (all)", [(1,), (1, 0, 0), (1, 1, 0), (2,)]),
    ("n", "number | sort 2 | first 3 | count 2 | sum of 2", []),
    # a first with k above 0 behind a walk, both or meet
    ("n", "walk 1 a - | first 1", [(2,)]),
    ("n", "walk 1 a - | cut 1 | sort 1 | first 60 | apart", [(4,), (5,)]),
    ("n", "walk 1 a - | first 0 | apart", []),
    ("n", "both (all) (all) | first 1", [(2,)]),
    ("n", "both (all) (all) | first 0", []),
    ("n", "both (all) (all) | apart | first 1", [(3,)]),
    ("n", "meet 1 1 (all) (all) | first 1", [(2,)]),
    ("n", "meet 1 1 (all) (all) | first 0", []),
    ("n", "first 1 | both (all) (all)", []),
    ("n", "first 1 | first 1 | first 1", []),
    ("n", "sort 1 | apart | number | first 2 | count 1 | first 1", []),
    ("n", "walk 1 a - | both (first 1) (all)", [(1, 0, 1), (2,)]),
    ("n", "walk 1 a - | both (all) (first 1)", [(1, 1, 1), (2,)]),
    ("n", "walk 1 a - | both (all) (first 0)", []),
    ("n", "both (all) (both (all) (all) | first 1)", [(0, 1, 2), (1,)]),
    # a first is not behind what stands in the other branch, nor behind what has its branch
    ("n", "both (walk 1 a - | cut 1) (first 1)", []),
    ("n", "both (first 1) (walk 1 a - | cut 1)", []),
    ("n", "both (meet 1 1 (all) (all)) (first 1)", []),
    ("n", "both (both (all) (all)) (first 1)", []),
    ("n", "both (both (first 1) (all)) (all)", []),
    ("n", "both (walk 1 a - | cut 1) (first 1) | first 1", [(2,)]),
    # a meet behind a walk or a first with k above 0
    ("n", "walk 1 a - | meet 1 1 (all) (all)", [(2,)]),
    ("n", "walk 1 a - | cut 1 | apart | meet 1 1 (all) (all) | cut 1", [(4,), (5,)]),
    ("n", "first 1 | meet 1 1 (all) (all)", [(2,)]),
    ("n", "first 1 | meet 1 1 (cut 1 1) (cut 1 1)", [(2,)]),
    ("n", "first 0 | meet 1 1 (all) (all)", []),
    ("n", "both (all) (all) | meet 1 1 (all) (all) | meet 1 1 (all) (all)", []),
    ("n", "both (first 1) (all) | meet 1 1 (all) (all)", [(2,)]),
    ("n", "both (all) (first 1) | meet 1 1 (all) (all)", [(2,)]),
    ("n", "both (walk 1 a - | cut 1) (all) | meet 1 1 (all) (all)", [(2,)]),
    ("n", "both (all) (first 0) | meet 1 1 (all) (all)", []),
    ("n", "both (both (all) (first 1)) (all) | both (meet 1 1 (all) (all)) (all)", [(1, 0, 1), (2,)]),
    ("n", "both (first 1) (meet 1 1 (all) (all))", []),
    ("n", "both (meet 1 1 (all) (all)) (first 1)", []),
    ("n", "both (walk 1 a - | cut 1) (meet 1 1 (all) (all))", []),
    ("n", "both (first 1 | meet 1 1 (all) (all)) (all)", [(0, 0, 2), (1,)]),
    ("n", "first 1 | both (all) (meet 1 1 (all) (all) | sort 1)", [(1, 1, 1), (1, 1, 2), (2,)]),
)

# Musts that are put together, just not at a loose place.
MUSTS = (
    ("n", "walk 1 a - | first 0 | must 1 1=1"),
    ("n", "walk 1 a - | must 1 1=1 | first 1"),
    ("n", "first 1 | must 1 1=1"),
    ("n", "first 1 | both (must 1 1=1) (all) | must 1 1=1"),
    ("n", "both (walk 1 a - | cut 1) (first 1) | must 1 1=1"),
    ("n", "both (first 1) (meet 1 1 (all) (all)) | must 1 1=1"),
    ("n", "first 0 | meet 1 1 (all) (all) | must 1 1=1"),
    ("n", "walk 1 a - | both (first 1) (must 1 1=1)"),
    ("nt", "both (keep 2 n:1) (must 1 1=1)"),
    ("n", "walk 1 a - | meet 1 1 (must 1 1=1) (must 1 1=1)"),
    ("nt", "keep 1 n:1 | must 1 1=1"),
    ("n", "number | sort 2 | first 1 | must 1 1=1"),
)

ANY_PIPES = (
    "all", "apart", "keep 1 n:1", "both (all) (apart | first 1)", "meet 1 1 (all) (cut 1) | first 1",
    "apart | both (both (all) (both (first 2) (all))) (all) | apart")


def why_refused(head, pipe):
    try:
        head_behind(head, pipe)
    except NoPipe as refused:
        return (refused.place, refused.why)
    return None


def through(pipe, place, prefix=()):
    """Places and workers that rows come through, as point 11 lists them."""
    found = []
    for at, worker in enumerate(pipe[:place[0]]):
        found.append((prefix + (at,), worker))
        if worker[0] in ("both", "meet"):
            for side, branch in enumerate(worker[-2:]):
                found.extend(through(branch, (len(branch),), prefix + (at, side)))
    if len(place) > 1:
        found.extend(through(pipe[place[0]][-2:][place[1]], place[2:], prefix + place[:2]))
    return found


def head_at(head, pipe, place):
    here = head_behind(head, pipe[:place[0]])
    return here if len(place) == 1 else head_at(here, pipe[place[0]][-2:][place[1]], place[2:])


def is_loose_as_told(head, pipe, place):
    for there, worker in through(pipe, place):
        ahead = [other for other_place, other in through(pipe, there)]
        names = [other[0] for other in ahead if other != ("first", 0)]
        if worker[0] == "keep" and head_at(head, pipe, there)[worker[1] - 1] == "t":
            return True
        if worker[0] == "first" and worker[1] > 0 and set(names) & {"walk", "both", "meet"}:
            return True
        if worker[0] == "meet" and set(names) & {"walk", "first"}:
            return True
    return False


class Heads(unittest.TestCase):
    def test_heads_behind_pipes(self):
        for head, text, behind in PUT_TOGETHER:
            with self.subTest(pipe=text):
                self.assertEqual(head_behind(tuple(head), read_pipe(text)), tuple(behind))

    def test_heads_of_one_to_six_sorts(self):
        for wide in range(1, 7):
            for head in itertools.islice(itertools.product("nwt", repeat=wide), 0, None, 2 * wide - 1):
                self.assertEqual(head_behind(head, ()), head)
                self.assertEqual(head_behind(head, (("cut", tuple(range(wide, 0, -1))),)), head[::-1])
                self.assertEqual(head_behind(head, (("count", tuple(range(1, wide))),)), head[:-1] + ("t",))
                for name in ("sort", "apart", "first", "both"):
                    worker = {"sort": ("sort", ((wide, True),)), "apart": ("apart",), "first": ("first", 3),
                              "both": ("both", (), ())}[name]
                    self.assertEqual(head_behind(head, (worker,) * 3), head)
                self.assertEqual(
                    why_refused(head, (("number",),)), None if wide < 6 else ((0,), "wide"))

    def test_each_reason(self):
        for head, text, place, why in REFUSED:
            with self.subTest(head=head, pipe=text):
                self.assertEqual(why_refused(tuple(head), read_pipe(text)), (place, why))

    def test_columns_and_widths_that_no_text_writes(self):
        number = ("n", ((1, 1),))
        for worker in (("keep", 0, number), ("cut", (0,)), ("same", 1, 0), ("sort", ((0, True),)), ("count", (-1,)),
                       ("sum", (), 0), ("meet", 0, 1, (), ()), ("meet", 1, 0, (), ()), ("turn", 13, ((1, 1),))):
            self.assertEqual(why_refused(("n", "n"), (worker,)), ((0,), "column"), worker)
        self.assertEqual(why_refused(("n",), (SEVEN,)), ((0,), "wide"))
        self.assertEqual(why_refused(("n",), (("count", (1,) * 6),)), ((0,), "wide"))
        self.assertEqual(why_refused(("n",), (("sum", (1,) * 6, 1),)), ((0,), "wide"))
        self.assertEqual(why_refused(("n",), (("both", (), (SEVEN,)),)), ((0, 1, 0), "wide"))

    def test_what_is_beyond_a_bound_is_not_refused_for_it(self):
        self.assertIsNone(why_refused(("n",), (("first", 61), ("turn", 1, tuple((at, at) for at in range(9))))))
        moves = tuple(("a", at, "a") for at in range(20))
        self.assertEqual(head_behind(("n",), (("walk", 1, "a", moves),)), ("n", "w"))
        self.assertEqual(head_behind(("w", "n", "w"), (("turn", 1, ()), ("must", 2, ()), ("first", -1))), ("w", "n", "w"))
        pipe = ()
        for deep in range(6):
            pipe = (("both", pipe, (("apart",),)),)
        self.assertEqual(head_behind(("n", "t"), pipe * 9), ("n", "t"))

    def test_reasons_within_branches_and_behind_workers(self):
        for head, text, place, why in REFUSED:
            head, pipe = tuple(head), read_pipe(text)
            for deep in range(3):
                self.assertEqual(why_refused(head, (("both", pipe, ()),)), ((0, 0) + place, why))
                beside = (("meet", 1, 9, (), pipe), ("cut", (9,)))
                self.assertEqual(why_refused(head, beside), ((0, 1) + place, why))
                cut = ("cut", tuple(range(1, len(head) + 1)))
                self.assertEqual(why_refused(head, (cut, cut) + pipe), ((place[0] + 2,) + place[1:], why))
                pipe = (("both", (), pipe),)
                place = (0, 1) + place

    def test_rows_told_have_the_head_behind(self):
        for number in range(400):
            chance = random.Random(number)
            head = tuple(chance.choice("nw") for column in range(chance.randint(1, 3)))
            names = tuple(name for name in NAMES if name not in ("keep", "same"))
            pipe = some_pipe(chance, head, names)
            rows = [tuple(chance.choice(cells_of(sort)) for sort in head) for row in range(4)]
            plain = tuple("w" if sort == "w" else "n" for sort in head_behind(head, pipe))
            try:
                rows = told(pipe, rows)
            except Falls:
                continue
            for row in rows:
                self.assertEqual(tuple("w" if isinstance(cell, str) else "n" for cell in row), plain, pipe)

    def test_a_pipe_is_put_together_if_its_parts_are(self):
        # But for walk, must and what makes places loose: these look at all that is ahead.
        names = tuple(name for name in NAMES if name not in ("must", "walk"))
        refused = 0
        for number in range(600):
            chance = random.Random(number)
            head = tuple(chance.choice("nwt") for column in range(chance.randint(1, 4)))
            pipe = some_pipe(chance, head, names)
            worker = some_worker(chance, tuple(chance.choice("nwt") for column in range(5)), names, 2)
            pipe = pipe + (worker,)
            try:
                parts = head_behind(head_behind(head, pipe[:-1]), pipe[-1:])
            except NoPipe as error:
                refused += 1
                place = (len(pipe) - 1,) + error.place[1:]
                self.assertEqual(why_refused(head, pipe), (place, error.why))
            else:
                self.assertEqual(head_behind(head, pipe), parts)
        self.assertGreater(refused, 100)


class Loose(unittest.TestCase):
    def test_loose_places(self):
        for head, text, loose in LOOSE:
            with self.subTest(pipe=text):
                pipe = read_pipe(text)
                told_loose = [place for place in places(pipe) if is_loose(tuple(head), pipe, place) is True]
                firm = [place for place in places(pipe) if is_loose(tuple(head), pipe, place) is False]
                self.assertEqual(told_loose, loose)
                self.assertEqual(len(told_loose) + len(firm), len(places(pipe)))

    def test_musts_at_places_that_are_not_loose(self):
        for head, text in MUSTS:
            self.assertIsNone(why_refused(tuple(head), read_pipe(text)), text)

    def test_a_must_is_refused_just_at_loose_places(self):
        seen = {True: 0, False: 0}
        for number in range(800):
            chance = random.Random(number)
            head = tuple(chance.choice("nwt") for column in range(chance.randint(1, 2)))
            pipe = some_pipe(chance, head, tuple(name for name in NAMES if name != "must") + ("first", "meet", "keep"), 5)
            for place in places(pipe):
                loose = is_loose_as_told(head, pipe, place)
                seen[loose] += 1
                self.assertIs(is_loose(head, pipe, place), loose, (head, pipe, place))
            here = head_behind(head, pipe)
            if here[0] != "t":
                must = ("must", 1, ((cells_of(here[0])[0], 1),))
                wanted = ((len(pipe),), "loose") if loose else None
                self.assertEqual(why_refused(head, pipe + (must,)), wanted, (head, pipe))
        self.assertGreater(min(seen.values()), 500)

    def test_no_such_place(self):
        for text in ANY_PIPES:
            pipe = read_pipe(text)
            there = places(pipe)
            wrong = [(), (-1,), (len(pipe) + 1,), (99,), (0, 0), (0, 1), (0, 2, 0), (0, -1, 0), (-1, 0, 0), (0, 0, -1)]
            for place in there:
                wrong += [place + (0,), place + (0, 0), place + (1, 0), place[:-1], place[:-1] + (-1,), place[:-1] + (9,)]
            for place in wrong:
                if place not in there:
                    with self.assertRaises(NoPlace, msg=(text, place)):
                        is_loose(("n",), pipe, place)

    def test_a_pipe_that_is_not_put_together_is_refused_wherever(self):
        for head, text, place, why in REFUSED:
            pipe = read_pipe(text)
            for asked in places(pipe) + [(), (-1,), (77,), (0, 0), (0, 5, 0)]:
                with self.assertRaises(NoPipe) as caught:
                    is_loose(tuple(head), pipe, asked)
                self.assertEqual((caught.exception.place, caught.exception.why), why_refused(tuple(head), pipe))

    def test_what_is_handed_in_stays_and_the_same_is_told_again(self):
        for head, text, loose in LOOSE:
            pipe = read_pipe(text)
            once = [is_loose(tuple(head), pipe, place) for place in places(pipe)]
            self.assertEqual(head_behind(tuple(head), pipe), head_behind(tuple(head), pipe))
            self.assertEqual([is_loose(tuple(head), pipe, place) for place in places(pipe)], once)
            self.assertEqual(pipe, read_pipe(text))


if __name__ == "__main__":
    unittest.main()
