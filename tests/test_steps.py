"""Steps of a shortening (point 23)."""

import itertools
import unittest

from rowpipes.coming import first_fall
from rowpipes.errors import Falling, NoPipe, NoStep, TooMany
from rowpipes.heads import head_behind
from rowpipes.kinds import head_of, is_of, read_kind
from rowpipes.pipetexts import read_pipe, show_pipe
from rowpipes.places import places
from rowpipes.running import told
from rowpipes.steps import stepped
from samples import NAMES, ONE_ROW, cases, lists_of
from test_coming import FALLS, MANY, REFUSED

RULES = ("gone", "joined", "moved", "single")
N, NN, NW, NWN = "n:1..3", "n:1..3 n:1..3", "n:1..3 w:a,b", "n:1..3 w:a,b n:.."
WALK = "walk 1 p p:*=p"

# Kind, pipe, place, the pipe that comes; None where the step can't be done.
GONE = (
    # keep: its set has all cells that ways bring
    (N, "keep 1 n:1..3", (0,), "all"),
    (N, "keep 1 n:0..4", (0,), "all"),
    (N, "keep 1 n:..", (0,), "all"),
    (N, "keep 1 n:1..2", (0,), None),
    (N, "keep 1 n:2..3", (0,), None),
    (N, "keep 1 n:1,3", (0,), None),
    (N, "keep 1 n:-", (0,), None),
    ("n:..", "keep 1 n:..7,9..", (0,), None),
    ("w:a,b", "keep 1 w:*-c", (0,), "all"),
    ("w:*-c", "keep 1 w:*-c", (0,), "all"),
    ("w:*", "keep 1 w:*-c", (0,), None),
    ("w:a,b", "keep 1 w:a", (0,), None),
    ("n:-", "keep 1 n:-", (0,), "all"),
    ("n:1 w:-", "keep 1 n:7", (0,), "all"),
    (N, "turn 1 1=5 | keep 1 n:2..5", (1,), "turn 1 1=5"),
    (N, "turn 1 1=5 | keep 1 n:1..3", (1,), None),
    (N, "turn 1 1=5 | keep 1 n:2..3", (1,), None),
    (N, "keep 1 n:2.. | keep 1 n:2..5", (1,), "keep 1 n:2.."),
    (N, "keep 1 n:2.. | keep 1 n:2..5", (0,), None),
    (N, "must 1 1=a,2=b,3=a | keep 1 w:a,b | sort 1", (1,), "must 1 1=a,2=b,3=a | sort 1"),
    (N, "first 0 | keep 1 n:9", (1,), "first 0"),
    (NW, f"{WALK} | keep 3 w:p", (1,), WALK),
    (NW, f"{WALK} | keep 3 w:*-p", (1,), None),
    ("n:1", "walk 1 p p:1=q,q:1=r,r:1=r,s:1=t | keep 2 w:q,r", (1,), "walk 1 p p:1=q,q:1=r,r:1=r,s:1=t"),
    ("n:1", "walk 1 p p:1=q,q:1=r,r:1=r,s:1=t | keep 2 w:q", (1,), None),
    # a tally may be any number
    (N, "number | keep 2 n:..", (1,), "number"),
    (N, "number | keep 2 n:1..", (1,), None),
    (N, "count | keep 1 n:..", (1,), "count"),
    (N, "sum 1 of 1 | keep 2 n:..0,2..", (1,), None),
    (N, "keep 1 n:9 | number | keep 2 n:5", (2,), "keep 1 n:9 | number"),
    # each of the ways
    (N, "both (turn 1 1=5) (turn 1 1=6) | keep 1 n:2..6", (1,), "both (turn 1 1=5) (turn 1 1=6)"),
    (N, "both (turn 1 1=5) (turn 1 1=6) | keep 1 n:2..5", (1,), None),
    (N, "both (turn 1 1=5) (turn 1 1=6) | keep 1 n:2..3,6", (1,), None),
    (NW, "meet 1 1 (keep 1 n:2..) (all) | keep 1 n:2..3", (1,), "meet 1 1 (keep 1 n:2..) (all)"),
    # in branches
    (N, "both (keep 1 n:1..3) (all)", (0, 0, 0), "both (all) (all)"),
    (N, "both (all) (keep 1 n:1..3)", (0, 1, 0), "both (all) (all)"),
    (N, "both (all) (keep 1 n:1..2)", (0, 1, 0), None),
    (N, "apart | both (sort 1 | keep 1 n:.. | apart) (all) | apart", (1, 0, 1), "apart | both (sort 1 | apart) (all) | apart"),
    (NW, "meet 1 1 (all) (keep 1 n:2 | keep 1 n:2..5)", (0, 1, 1), "meet 1 1 (all) (keep 1 n:2)"),
    (N, "both (both (all) (both (keep 1 n:0..) (apart))) (all)", (0, 0, 0, 1, 0, 0, 0), "both (both (all) (both (all) (apart))) (all)"),
    # same: of one set, or one cell, the same
    (N, "same 1 1", (0,), "all"),
    (NN, "same 1 2", (0,), None),
    (N, "cut 1 1 | same 1 2", (1,), "cut 1 1"),
    (N, "cut 1 1 | same 2 1", (1,), "cut 1 1"),
    (NN, "same 1 2 | same 2 1", (1,), "same 1 2"),
    (NN, "same 1 2 | same 2 1", (0,), None),
    ("n:2 n:2", "same 1 2", (0,), "all"),
    ("n:2 n:2..3", "same 1 2", (0,), None),
    ("n:2 n:3", "same 1 2", (0,), None),
    ("n:1..3 n:2", "turn 1 1=2,2=2,3=2 | same 1 2", (1,), "turn 1 1=2,2=2,3=2"),
    ("n:1..3 n:2", "turn 1 1=2,2=2 | same 1 2", (1,), None),
    ("n:1..3 n:2", "turn 1 1=2,3=1 | same 1 2", (1,), None),
    (NN, "must 1 1=7,2=7,3=7 | must 2 1=7,2=7,3=7 | same 1 2", (2,), "must 1 1=7,2=7,3=7 | must 2 1=7,2=7,3=7"),
    (N, "cut 1 1 | turn 1 1=1 | same 1 2", (2,), "cut 1 1 | turn 1 1=1"),
    (N, "cut 1 1 | turn 1 1=5 | same 1 2", (2,), None),
    (NN, "keep 1 n:- | same 1 2", (1,), "keep 1 n:-"),
    (NN, "both (same 1 1) (same 1 2)", (0, 0, 0), "both (all) (same 1 2)"),
    (NN, "both (same 1 1) (same 1 2)", (0, 1, 0), None),
    (N, "both (cut 1 1) (cut 1 1) | same 1 2", (1,), "both (cut 1 1) (cut 1 1)"),
    (NN, "both (same 1 2) (all) | same 1 2", (1,), None),
    # turn, must: change no cell that ways bring
    (N, "turn 1 4=5", (0,), "all"),
    (N, "turn 1 3=5", (0,), None),
    (N, "turn 1 1=1", (0,), "all"),
    (N, "turn 1 1=1,2=2,7=8", (0,), "all"),
    (N, "turn 1 1=1,2=1", (0,), None),
    (N, "turn 1 1=2 | turn 1 1=9", (1,), "turn 1 1=2"),
    (N, "turn 1 1=2 | turn 1 1=9", (0,), None),
    (N, "turn 1 1=2 | turn 1 1=9,2=3", (1,), None),
    (N, "turn 1 1=4 | turn 1 4=5", (1,), None),
    ("w:*", "turn 1 a=b", (0,), None),
    ("w:*-a", "turn 1 a=b", (0,), "all"),
    (N, "both (turn 1 1=2) (turn 1 1=3) | turn 1 1=9", (1,), "both (turn 1 1=2) (turn 1 1=3)"),
    (N, "both (turn 1 1=2) (all) | turn 1 1=9", (1,), None),
    (N, "must 1 1=1,2=2,3=3", (0,), "all"),
    (N, "must 1 1=1,2=2,3=3,4=5", (0,), "all"),
    (N, "must 1 1=1,2=2,3=4", (0,), None),
    (N, "must 1 1=a,2=b,3=c", (0,), None),
    (N, "keep 1 n:2 | must 1 1=5,2=2 | apart", (1,), "keep 1 n:2 | apart"),
    (N, "both (keep 1 n:2 | must 1 1=5,2=2) (all)", (0, 0, 1), "both (keep 1 n:2) (all)"),
    (N, f"{WALK} | must 2 p=p", (1,), WALK),
    (N, f"{WALK} | must 2 p=q", (1,), None),
    # where no way comes, but the rest must be put together
    ("n:-", "must 1 1=2 | keep 1 n:2", (0,), "keep 1 n:2"),
    ("n:-", "must 1 1=a", (0,), "all"),
    ("n:-", "must 1 1=a | keep 1 w:a", (0,), None),
    ("n:-", "must 1 1=a | cut 1 1", (0,), "cut 1 1"),
    ("n:-", "both (must 1 1=a) (must 1 2=b)", (0, 0, 0), None),
    ("n:-", "both (must 1 1=a) (must 1 2=b)", (0, 1, 0), None),
    # cut: all columns in order
    (N, "cut 1", (0,), "all"),
    (NWN, "cut 1 2 3", (0,), "all"),
    (NWN, "cut 1 2", (0,), None),
    (NWN, "cut 2 3", (0,), None),
    (NWN, "cut 1 3 2", (0,), None),
    (NWN, "cut 1 2 3 3", (0,), None),
    (NWN, "cut 1 2 3 1 2 3", (0,), None),
    (NWN, "cut 3 1 | cut 1 2", (1,), "cut 3 1"),
    (N, "number | cut 1 2", (1,), "number"),
    (N, "number | cut 1", (1,), None),
    (NW, "meet 1 1 (cut 1 2) (all) | cut 1 2 3", (0, 0, 0), "meet 1 1 (all) (all) | cut 1 2 3"),
    (NW, "meet 1 1 (cut 1 2) (all) | cut 1 2 3", (1,), "meet 1 1 (cut 1 2) (all)"),
    # sort: the beginning of the known order, or one row at most
    (NWN, "sort 1 | sort 1", (1,), "sort 1"),
    (NWN, "sort 1 | sort 1", (0,), None),
    (NWN, "sort 1 2- | sort 1", (1,), "sort 1 2-"),
    (NWN, "sort 1 2- | sort 1 2-", (1,), "sort 1 2-"),
    (NWN, "sort 1 2- | sort 1 2", (1,), None),
    (NWN, "sort 1 2- | sort 2-", (1,), None),
    (NWN, "sort 1 2- | sort 1 2- 3", (1,), None),
    (NWN, "sort 1- | sort 1", (1,), None),
    (NWN, "sort 1 | sort 2 | sort 2 1", (2,), "sort 1 | sort 2"),
    (NWN, "sort 1 | keep 2 w:a | apart | first 5 | sort 1", (4,), "sort 1 | keep 2 w:a | apart | first 5"),
    (NWN, "sort 1 | turn 1 1=2 | sort 1", (2,), None),
    (NWN, "sort 1 | turn 2 a=b | sort 1", (2,), "sort 1 | turn 2 a=b"),
    (NWN, "sort 3- 1 | cut 2 3 | sort 2-", (2,), "sort 3- 1 | cut 2 3"),
    (NWN, "sort 3- 1 | count 3 1 | sort 1- 2", (2,), "sort 3- 1 | count 3 1"),
    (N, "number | sort 2", (1,), "number"),
    (N, "number | sort 2-", (1,), None),
    (N, "sort 1 | both (sort 1) (sort 1-)", (1, 0, 0), "sort 1 | both (all) (sort 1-)"),
    (N, "sort 1 | both (sort 1) (sort 1-)", (1, 1, 0), None),
    (N, "sort 1 | both (all) (all) | sort 1", (2,), None),
    (NW, "sort 1 | meet 1 1 (all) (all) | sort 1", (2,), "sort 1 | meet 1 1 (all) (all)"),
    (N, "first 1 | sort 1", (1,), "first 1"),
    (N, "first 0 | sort 1", (1,), "first 0"),
    (N, "first 2 | sort 1", (1,), None),
    (N, "both (first 1) (first 0) | sort 1", (1,), "both (first 1) (first 0)"),
    (N, "both (first 1) (first 1) | sort 1", (1,), None),
    (N, "first 1 | meet 1 1 (all) (all) | sort 1", (2,), "first 1 | meet 1 1 (all) (all)"),
    (N, "first 2 | meet 1 1 (all) (all) | sort 1", (2,), None),
    ("n:-", "sort 1", (0,), None),
    ("n:1", "sort 1", (0,), None),
    # apart: unlike, or one row at most
    (N, "apart | apart", (1,), "apart"),
    (N, "apart | apart", (0,), None),
    (N, "count 1 | apart", (1,), "count 1"),
    (N, "sum 1 of 1 | apart", (1,), "sum 1 of 1"),
    (N, "number | apart", (1,), "number"),
    (N, "apart | first 3 | apart", (2,), "apart | first 3"),
    (N, "apart | keep 1 n:1.. | apart", (2,), None),
    (N, "apart | sort 1 | apart", (2,), None),
    (NW, "apart | cut 2 1 2 | apart", (2,), "apart | cut 2 1 2"),
    (NW, "apart | cut 2 2 | apart", (2,), None),
    (N, "number | turn 1 1=2 | apart", (2,), None),
    (N, "first 1 | apart", (1,), "first 1"),
    (N, "first 2 | apart", (1,), None),
    (N, "apart | both (apart) (apart) | apart", (1, 1, 0), "apart | both (apart) (all) | apart"),
    (N, "apart | both (apart) (apart) | apart", (2,), None),
    # first: no more rows come
    (N, "first 2 | first 2", (1,), "first 2"),
    (N, "first 2 | first 2", (0,), None),
    (N, "first 2 | first 3", (1,), "first 2"),
    (N, "first 3 | first 2", (1,), None),
    (N, "first 2", (0,), None),
    (N, "first 0", (0,), None),
    ("n:-", "first 60", (0,), None),
    (N, "first 2 | sort 1 | apart | first 3", (3,), "first 2 | sort 1 | apart"),
    (N, "first 2 | both (all) (first 1) | first 3", (2,), "first 2 | both (all) (first 1)"),
    (N, "first 2 | both (all) (first 1) | first 2", (2,), None),
    (N, "first 2 | both (first 2) (first 1) | first 2", (1, 0, 0), "first 2 | both (all) (first 1) | first 2"),
    (N, "first 2 | both (first 2) (first 1) | first 2", (1, 1, 0), None),
    (N, "first 2 | meet 1 1 (all) (all) | first 4", (2,), "first 2 | meet 1 1 (all) (all)"),
    (N, "first 2 | meet 1 1 (all) (all) | first 3", (2,), None),
    (N, "first 0 | first 0", (1,), "first 0"),
    # no other worker goes
    (N, "walk 1 p p:*=p", (0,), None),
    (N, "count", (0,), None),
    (N, "count 1", (0,), None),
    (N, "sum of 1", (0,), None),
    (N, "number", (0,), None),
    (N, "both (all) (all)", (0,), None),
    (N, "both (first 0) (first 0)", (0,), None),
    (N, "meet 1 1 (all) (all)", (0,), None),
    ("n:-", "walk 1 p - | count", (0,), None),
    ("n:-", "walk 1 p - | count", (1,), None),
    ("n:-", "number | meet 1 1 (all) (all)", (0,), None),
    ("n:-", "number | meet 1 1 (all) (all)", (1,), None),
)

JOINED = (
    (NWN, "cut 2 1 | cut 2 2 1", (0,), "cut 1 1 2"),
    (NWN, "cut 3 3 2 1 | cut 4", (0,), "cut 1"),
    (NWN, "cut 1 2 3 | cut 1 2 3", (0,), "cut 1 2 3"),
    (N, "cut 1 | cut 1 1 1 1 1 1", (0,), "cut 1 1 1 1 1 1"),
    (N, "number | cut 2 1 | cut 1", (1,), "number | cut 2"),
    (N, "keep 1 n:1..2 | keep 1 n:2..5", (0,), "keep 1 n:2"),
    (N, "keep 1 n:1 | keep 1 n:2", (0,), "keep 1 n:-"),
    ("w:*", "keep 1 w:*-a | keep 1 w:*-b", (0,), "keep 1 w:*-a,b"),
    ("w:*", "keep 1 w:*-a | keep 1 w:a,b", (0,), "keep 1 w:b"),
    (NN, "keep 1 n:1 | keep 2 n:1", (0,), None),
    (NN, "keep 2 n:1 | keep 1 n:1", (0,), None),
    (N, "number | keep 2 n:1..2 | keep 2 n:2..3", (1,), "number | keep 2 n:2"),
    (N, "first 2 | first 3", (0,), "first 2"),
    (N, "first 3 | first 2", (0,), "first 2"),
    (N, "first 3 | first 3", (0,), "first 3"),
    (N, "first 3 | first 0", (0,), "first 0"),
    (N, "apart | apart", (0,), "apart"),
    (NWN, "sort 1 2- | sort 2 3", (0,), "sort 2 3 1"),
    (NWN, "sort 1 2- 3 | sort 3-", (0,), "sort 3- 1 2-"),
    (NWN, "sort 1 | sort 1-", (0,), "sort 1-"),
    (NWN, "sort 1 | sort 2", (0,), "sort 2 1"),
    (NWN, "sort 1 | sort 1 2 3", (0,), "sort 1 2 3"),
    # just two of the same name, one behind another, of these names
    (N, "turn 1 1=2 | turn 1 2=3", (0,), None),
    (N, "must 1 1=1,2=2,3=3 | must 1 1=1,2=2,3=3", (0,), None),
    (NN, "same 1 2 | same 1 2", (0,), None),
    (N, "number | number", (0,), None),
    (N, "count 1 | count 1", (0,), None),
    (N, "sum 1 of 1 | sum 1 of 1", (0,), None),
    (N, "both (all) (all) | both (all) (all)", (0,), None),
    (N, "meet 1 1 (all) (all) | meet 1 1 (all) (all)", (0,), None),
    (NN, "keep 1 n:1 | same 1 2", (0,), None),
    (N, "sort 1 | first 2", (0,), None),
    (N, "first 2 | sort 1 | first 1", (0,), None),
    (N, "keep 1 n:1 | apart | keep 1 n:1", (0,), None),
    (N, "apart", (0,), None),
    (N, "apart | apart", (1,), None),
    # of three the first two, the last two
    (N, "apart | apart | number | cut 1", (0,), "apart | number | cut 1"),
    (N, "first 5 | first 4 | first 3", (0,), "first 4 | first 3"),
    (N, "first 5 | first 4 | first 3", (1,), "first 5 | first 3"),
    # in branches, and not over their ends
    (N, "both (cut 1 | cut 1) (all)", (0, 0, 0), "both (cut 1) (all)"),
    (N, "both (cut 1 | cut 1) (all)", (0, 0, 1), None),
    (N, "both (all) (first 2 | first 1) | first 3", (0, 1, 0), "both (all) (first 1) | first 3"),
    (N, "both (all) (first 2) | first 1", (0, 1, 0), None),
    (N, "first 2 | both (first 1) (first 1)", (0,), None),
    (N, "both (first 1) (first 1)", (0, 0, 0), None),
    (NW, "meet 1 1 (keep 1 n:1..2 | keep 1 n:2..) (all)", (0, 0, 0), "meet 1 1 (keep 1 n:2) (all)"),
    (N, "both (both (apart | apart) (all)) (both (all) (sort 1- | sort 1))", (0, 1, 0, 1, 0),
     "both (both (apart | apart) (all)) (both (all) (sort 1))"),
)

MOVED = (
    (NN, "sort 1 | keep 1 n:1", (0,), "keep 1 n:1 | sort 1"),
    (NN, "sort 1 2- | same 1 2", (0,), "same 1 2 | sort 1 2-"),
    (N, "number | sort 1 | keep 2 n:1", (1,), "number | keep 2 n:1 | sort 1"),
    # a cut: the columns told anew
    (NW, "cut 2 1 | keep 2 n:1", (0,), "keep 1 n:1 | cut 2 1"),
    (NW, "cut 2 1 | keep 1 w:a", (0,), "keep 2 w:a | cut 2 1"),
    (NW, "cut 1 1 2 | keep 2 n:1", (0,), "keep 1 n:1 | cut 1 1 2"),
    (NWN, "cut 3 1 | same 1 2", (0,), "same 3 1 | cut 3 1"),
    (NWN, "cut 3 1 | same 2 1", (0,), "same 1 3 | cut 3 1"),
    (N, "cut 1 1 | same 1 2", (0,), "same 1 1 | cut 1 1"),
    (N, "number | cut 2 1 | keep 1 n:1", (1,), "number | keep 2 n:1 | cut 2 1"),
    # turn, must of another column than are tested
    (NWN, "turn 1 1=2 | keep 2 w:a", (0,), "keep 2 w:a | turn 1 1=2"),
    (NWN, "turn 1 1=2 | keep 1 n:2", (0,), None),
    (NWN, "turn 2 a=b | same 1 3", (0,), "same 1 3 | turn 2 a=b"),
    (NWN, "turn 1 1=2 | same 1 3", (0,), None),
    (NWN, "turn 1 1=2 | same 3 1", (0,), None),
    (NWN, "turn 1 1=2 | same 3 3", (0,), "same 3 3 | turn 1 1=2"),
    (NWN, "turn 1 1=2 | same 1 1", (0,), None),
    (NW, "must 1 1=a,2=a,3=a | keep 2 w:a", (0,), "keep 2 w:a | must 1 1=a,2=a,3=a"),
    (NW, "must 1 1=a,2=a,3=a | keep 1 w:a", (0,), None),
    (NW, "must 1 1=a,2=a,3=a | same 1 2", (0,), None),
    (NW, "must 1 1=a,2=a,3=a | same 2 2", (0,), "same 2 2 | must 1 1=a,2=a,3=a"),
    (N, "number | turn 1 1=2 | keep 2 n:1", (1,), "number | keep 2 n:1 | turn 1 1=2"),
    # a keep of a tally ahead of a must would make the must's place loose
    (N, "number | must 1 1=1,2=2,3=4 | keep 2 n:1", (1,), None),
    (NN, "number | must 1 1=1,2=2,3=4 | keep 2 n:1", (1,), "number | keep 2 n:1 | must 1 1=1,2=2,3=4"),
    # ahead of a keep or same, not behind it, and no other worker
    (NN, "keep 1 n:1 | sort 1", (0,), None),
    (NN, "keep 1 n:1 | sort 1", (1,), None),
    (NN, "sort 1 | keep 1 n:1", (1,), None),
    (NN, "keep 1 n:1 | keep 2 n:1", (0,), None),
    (NN, "same 1 2 | keep 2 n:1", (0,), None),
    (NN, "sort 1 | sort 2", (0,), None),
    (NN, "sort 1 | cut 2", (0,), None),
    (NN, "sort 1 | turn 2 1=2", (0,), None),
    (NN, "cut 1 | sort 1", (0,), None),
    (NN, f"{WALK} | keep 1 n:1", (0,), None),
    (NN, "apart | keep 1 n:1", (0,), None),
    (NN, "count 1 | keep 1 n:1", (0,), None),
    (NN, "sum 1 of 1 | keep 1 n:1", (0,), None),
    (NN, "number | keep 1 n:1", (0,), None),
    (NN, "first 2 | keep 1 n:1", (0,), None),
    (NN, "both (all) (all) | keep 1 n:1", (0,), None),
    (NN, "meet 1 1 (all) (all) | keep 1 n:1", (0,), None),
    (NN, "sort 1", (0,), None),
    (NN, "sort 1 | apart | keep 1 n:1", (0,), None),
    # in branches, and not over their ends
    (NN, "both (sort 1 | keep 1 n:1 | apart) (all)", (0, 0, 0), "both (keep 1 n:1 | sort 1 | apart) (all)"),
    (NN, "both (all) (sort 1) | keep 1 n:1", (0, 1, 0), None),
    (NN, "sort 1 | both (keep 1 n:1) (all)", (0,), None),
    (NN, "meet 1 1 (cut 2 1 | keep 2 n:1) (all)", (0, 0, 0), "meet 1 1 (keep 1 n:1 | cut 2 1) (all)"),
    (NN, "both (both (all) (turn 1 1=2 | keep 2 n:3)) (all)", (0, 0, 0, 1, 0), "both (both (all) (keep 2 n:3 | turn 1 1=2)) (all)"),
)

SINGLE = (
    (N, "both (keep 1 n:9) (apart)", (0,), "apart"),
    (N, "both (apart) (keep 1 n:9)", (0,), "apart"),
    (N, "both (all) (first 0)", (0,), "all"),
    (N, "both (first 0) (all)", (0,), "all"),
    (N, "both (apart | sort 1) (first 0 | apart)", (0,), "apart | sort 1"),
    (N, "sort 1 | both (keep 1 n:9 | count) (count | apart) | apart", (1,), "sort 1 | count | apart | apart"),
    # both are so: those of the first
    (N, "both (keep 1 n:9) (first 0 | apart)", (0,), "keep 1 n:9"),
    ("n:-", "both (apart) (number | cut 1)", (0,), "apart"),
    (N, "keep 1 n:9 | both (apart) (all)", (1,), "keep 1 n:9 | apart"),
    # a way comes to the end of each
    (N, "both (all) (all)", (0,), None),
    (N, "both (keep 1 n:3) (keep 1 n:1)", (0,), None),
    (N, "both (keep 1 n:3) (number | keep 2 n:- | cut 1)", (0,), None),
    (NN, "both (same 1 2) (all)", (0,), None),
    ("n:1 n:2", "both (same 1 2) (all)", (0,), "all"),
    ("n:1 n:2", "both (all) (meet 1 2 (all) (all) | cut 1 2)", (0,), "all"),
    # in branches
    (N, "both (both (first 0) (apart | apart)) (all)", (0, 0, 0), "both (apart | apart) (all)"),
    (N, "both (both (first 0) (apart | apart)) (all)", (0,), None),
    (N, "both (all) (apart | both (first 0) (first 0))", (0, 1, 1), "both (all) (apart | first 0)"),
    (N, "both (all) (apart | both (first 0) (first 0))", (0,), "all"),
    # of no other worker
    (N, "meet 1 1 (keep 1 n:9) (all)", (0,), None),
    (N, "first 0 | meet 1 1 (all) (all)", (1,), None),
    (N, "keep 1 n:9", (0,), None),
    (N, "both (keep 1 n:9) (all)", (0, 0, 0), None),
    (N, "first 0 | apart", (1,), None),
    # a first behind it is loose no more
    (N, "both (keep 1 n:9) (all) | first 2", (0,), "first 2"),
)

DUE = {"gone": GONE, "joined": JOINED, "moved": MOVED, "single": SINGLE}


def can_step(kind, pipe, step):
    """The pipe that comes, None with NoStep."""
    try:
        return stepped(kind, pipe, step)
    except NoStep:
        return None


def is_put_together(kind, pipe):
    try:
        head_behind(head_of(read_kind(kind)), pipe)
    except NoPipe:
        return False
    return True


class WordByWord(unittest.TestCase):
    def test_each_rule_where_it_is_due_and_where_it_just_is_not(self):
        for rule, listed in DUE.items():
            for kind, text, place, behind in listed:
                with self.subTest(rule=rule, kind=kind, pipe=text, place=place):
                    found = can_step(read_kind(kind), read_pipe(text), (rule, place))
                    self.assertEqual(None if found is None else show_pipe(found), behind)
                    self.assertEqual(found, None if behind is None else read_pipe(behind))

    def test_in_branches_and_ahead_of_others(self):
        # The same steps with workers behind that change neither ways nor facts ahead of them.
        rest = "number | count"
        forms = (
            ("{} | " + rest, ()), ("both ({} | " + rest + ") (count)", (0, 0)), ("both (count) ({} | " + rest + ")", (0, 1)),
            ("both (both (count) ({} | " + rest + ")) (count)", (0, 0, 0, 1)))
        seen = 0
        for rule, listed in DUE.items():
            for (kind, text, place, behind), (form, prefix) in itertools.product(listed, forms):
                pipe = read_pipe(form.format(text).replace("all | ", ""))
                if is_put_together(kind, pipe):
                    found = can_step(read_kind(kind), pipe, (rule, prefix + place))
                    wanted = None if behind is None else read_pipe(form.format(behind).replace("all | ", ""))
                    self.assertEqual(found, wanted, (rule, kind, show_pipe(pipe), place))
                    seen += 1
        self.assertGreater(seen, 800)


class NoSuchStep(unittest.TestCase):
    def test_places_of_no_worker(self):
        for text in ("all", "apart", "apart | apart", "both (all) (apart)", "meet 1 1 (all) (cut 1) | sort 1"):
            pipe = read_pipe(text)
            ends = [place for place in places(pipe) if not has_worker(pipe, place)]
            wrong = [(), (-1,), (9,), (0, 0), (0, 1), (0, 2, 0), (1, 0, 0), (0, 0, 9), (0, 0, 0, 0)]
            for place in ends + [place for place in wrong if place not in places(pipe)]:
                for rule in RULES:
                    with self.assertRaises(NoStep, msg=(text, rule, place)):
                        stepped(read_kind("n:1"), pipe, (rule, place))

    def test_words_that_are_no_rules(self):
        for rule in ("", "gon", "gones", "GONE", "Gone", "join", "shorter", "apart", "keep", "one", " gone"):
            for text in ("apart | apart", "keep 1 n:..", "sort 1 | keep 1 n:1", "both (first 0) (all)"):
                with self.assertRaises(NoStep, msg=(text, rule)):
                    stepped(read_kind("n:1"), read_pipe(text), (rule, (0,)))

    def test_no_pipe_is_first(self):
        for kind, text, place, why in REFUSED:
            for step in itertools.product(RULES + ("none",), ((0,), (), (99,))):
                with self.assertRaises(NoPipe, msg=text) as caught:
                    stepped(read_kind(kind), read_pipe(text), step)
                self.assertEqual((caught.exception.place, caught.exception.why), (place, why))

    def test_falling_is_next(self):
        for kind_text, text, place in FALLS:
            if place is None:
                continue
            kind, pipe = read_kind(kind_text), read_pipe(text)
            for step in (("gone", (0,)), ("none", (0,)), ("joined", (99,)), ("single", ())):
                with self.assertRaises(Falling, msg=text) as caught:
                    stepped(kind, pipe, step)
                found = caught.exception
                self.assertEqual((found.place, found.rows), first_fall(kind, pipe))
                self.assertEqual(found.place, place)
                self.assertTrue(found.rows and all(is_of(kind, row) for row in found.rows))

    def test_too_many_ways(self):
        for kind, text in MANY:
            for step in (("gone", (0,)), ("none", (0,)), ("joined", (99,))):
                with self.assertRaises(TooMany, msg=text):
                    stepped(read_kind(kind), read_pipe(text), step)


def has_worker(pipe, place):
    if len(place) > 1:
        return has_worker(pipe[place[0]][-2:][place[1]], place[2:])
    return place[0] < len(pipe)


def workers(pipe):
    return sum(1 + sum(workers(branch) for branch in worker[-2:] if worker[0] in ("both", "meet")) for worker in pipe)


class Answers(unittest.TestCase):
    def test_each_step_leaves_all_answers_what_they_were(self):
        seen = {rule: 0 for rule in RULES}
        one_row = ONE_ROW + ("sort", "apart", "first")
        for names, seed in ((one_row, 71), (one_row + ("both", "number"), 72), (ONE_ROW + ("meet", "both", "count"), 73), (NAMES, 74)):
            for kind, pipe in cases(1200, 3, names=names, seed=seed):
                if first_fall(kind, pipe) is None:
                    for rule in self.hold_against_rows(kind, pipe):
                        seen[rule] += 1
        self.assertGreater(min(seen.values()), 100, seen)

    def hold_against_rows(self, kind, pipe):
        lists = lists_of(kind, 80)[-40:]
        for rule, place in itertools.product(RULES, places(pipe)):
            behind = can_step(kind, pipe, (rule, place))
            if behind is None:
                continue
            for rows in lists:
                self.assertEqual(told(behind, rows), told(pipe, rows), (kind, pipe, rule, place))
            self.assertIsNone(first_fall(kind, behind))
            self.assertLessEqual(workers(behind), workers(pipe))
            self.assertEqual(workers(behind) == workers(pipe), rule == "moved")
            yield rule

    def test_what_is_handed_in_stays(self):
        for rule, listed in DUE.items():
            for kind_text, text, place, behind in listed:
                if behind is not None:
                    kind, pipe, step = read_kind(kind_text), read_pipe(text), (rule, place)
                    first = stepped(kind, pipe, step)
                    self.assertEqual((kind, pipe), (read_kind(kind_text), read_pipe(text)))
                    self.assertEqual(stepped(kind, pipe, step), first)


if __name__ == "__main__":
    unittest.main()
