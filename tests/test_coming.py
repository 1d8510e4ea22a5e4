"""What can come to the places of a pipe, and where it falls (points 13, 14 and 18)."""

import itertools
import unittest

from rowpipes.coming import bringing, first_fall
from rowpipes.errors import Falls, NoPipe, NoPlace, TooMany
from rowpipes.heads import is_loose, survey
from rowpipes.kinds import head_of, is_of, read_kind
from rowpipes.pipetexts import read_pipe
from rowpipes.places import places
from rowpipes.running import told
from samples import NUMBERS, ONE_ROW, STATES, WORDS, cases, lists_of, rows_at

LONG = 10 ** 60 - 1
THREE = "1=1,2=2,3=3"
CHAIN = "walk 1 a a:1=b,b:1=c,c:1=d,d:1=e,e:1=f,f:1=g,g:1=h,h:1=i,i:1=j,j:1=k,k:1=l,l:1=m,m:1=n,n:1=o,o:1=p,p:1=q"

# Kind, pipe, the place at which it falls.
FALLS = (
    ("n:..", "all", None),
    ("n:..", "keep 1 n:1 | same 1 1 | cut 1 1 | turn 1 1=2 | sort 1 | apart | number | count 1 | sum 1 of 1 | first 3", None),
    # all that comes is taken, all but one cell, none of it
    ("n:1..3", f"must 1 {THREE}", None),
    ("n:1..4", f"must 1 {THREE}", (0,)),
    ("n:0..3", f"must 1 {THREE}", (0,)),
    ("n:4..9", f"must 1 {THREE}", (0,)),
    ("n:1,3", f"must 1 {THREE}", None),
    ("n:..", f"must 1 {THREE}", (0,)),
    ("n:3..", f"must 1 {THREE}", (0,)),
    (f"n:{LONG}", f"must 1 {LONG}=1", None),
    (f"n:{LONG - 1}..{LONG}", f"must 1 {LONG}=1", (0,)),
    ("w:a,b", "must 1 a=1,b=2", None),
    ("w:a,b,c", "must 1 a=1,b=2", (0,)),
    ("w:*", "must 1 a=1,b=2", (0,)),
    ("w:*-a,b", "must 1 a=1,b=2", (0,)),
    ("w:zzzzzzzz", "must 1 zzzzzzzz=a", None),
    # a set without cells
    ("n:-", "must 1 1=1", None),
    ("n:.. w:-", "must 1 1=1", None),
    ("w:- n:..", "must 2 1=1 | walk 2 a -", None),
    ("n:-", "walk 1 a -", None),
    # six columns
    ("n:1 w:a n:2 w:b n:3 w:*", "must 5 3=a | must 6 a=a", (1,)),
    ("n:1 w:a n:2 w:b n:3 w:c", "must 5 3=a | must 6 c=a | same 5 6 | must 1 1=1", None),
    # one-row workers ahead
    ("n:..", f"keep 1 n:1..3 | must 1 {THREE}", None),
    ("n:..", f"keep 1 n:1..3,9 | must 1 {THREE}", (1,)),
    ("n:..", f"keep 1 n:- | must 1 {THREE}", None),
    ("w:*", "keep 1 w:*-a,b | keep 1 w:a,b,c | must 1 c=c", None),
    ("n:1..3 n:3..5", "same 1 2 | must 1 3=1", None),
    ("n:1..3 n:3..5", "same 1 2 | must 2 3=9 | must 1 3=1", None),
    ("n:1..3 n:3..5", "same 2 1 | keep 1 n:..2 | must 1 7=1", None),
    ("n:1..3 n:4..5", "same 2 1 | must 1 7=1", None),
    ("n:1..3 n:2..5", "same 1 2 | must 2 2=2", (1,)),
    ("n:1..3 n:2..5", "turn 1 1=4,2=4,3=4 | same 2 1 | must 2 4=4", None),
    ("n:1..3 n:2..5", "turn 1 1=4,2=4 | same 2 1 | must 2 4=4", (2,)),
    ("n:1..3", f"turn 1 1=2,2=5 | must 1 {THREE}", (1,)),
    ("n:1..3", "turn 1 1=2,2=5 | must 1 2=2,5=5,3=3", None),
    ("n:1..3", "turn 1 1=1,2=1,3=1 | must 1 1=1", None),
    ("n:1..3", f"cut 1 1 | must 1 {THREE} | keep 1 n:2 | must 2 2=2", None),
    ("n:1..3", "cut 1 1 | turn 1 1=2 | keep 1 n:2 | must 2 2=2", (3,)),
    ("n:1..3 w:a,b", "cut 2 1 | must 2 1=a,2=b,3=a | same 1 2 | must 1 a=1,b=2", None),
    ("n:1..3 w:a,b", "cut 2 1 | must 2 1=a,2=a,3=a | same 1 2 | must 1 b=2", (3,)),
    # the first place in running order
    ("n:1..4", f"must 1 {THREE},4=9 | must 1 {THREE}", (1,)),
    ("n:1..5", f"must 1 {THREE},4=9 | must 1 {THREE}", (0,)),
    ("n:1..3", "must 1 1=1,2=2,3=9 | keep 1 n:9 | must 1 9=8 | must 1 9=8 | must 1 7=7", (3,)),
    # walk
    ("w:a", "walk 1 p p:a=q,q:a=q,p:b=p", None),
    ("w:a,b", "walk 1 p p:a=q,q:a=q,p:b=p", (0,)),
    ("w:a,b", "walk 1 p p:*=p,q:a=q", None),
    ("w:a,b", "walk 1 p p:a=p,p:b=p,q:a=q", None),
    ("w:a,b", "walk 1 p p:a=p,p:*=q,q:b=q,q:a=p", None),
    ("n:1..3", "walk 1 p p:*=q,q:*=r,r:*=s,s:1=s", (0,)),
    ("n:1", "walk 1 p p:*=q,q:*=r,r:*=s,s:1=s", None),
    ("n:1..3", "walk 1 p p:*=q,q:*=r,r:*=s,s:*=s | must 2 q=q,r=r", (1,)),
    ("n:1..3", "walk 1 p p:*=q,q:*=r,r:*=s,s:*=s | must 2 q=q,r=r,s=s", None),
    ("n:1..2", "walk 1 p p:1=p,p:2=p,p:*=z | must 2 p=p", None),
    ("n:1..3", "walk 1 p p:1=p,p:2=p,p:*=z,z:*=p | must 2 p=p", (1,)),
    ("n:1..3", "walk 1 p -", (0,)),
    ("n:1..3", "keep 1 n:4 | walk 1 p -", None),
    ("n:1..3", "turn 1 1=2,3=2 | walk 1 p p:2=q,q:2=p | must 2 p=p,q=q", None),
    ("n:1", CHAIN, (0,)),
    ("n:1", CHAIN.replace(",p:1=q", ",p:*=p"), None),
    ("n:1", CHAIN.replace("p:1=q", "p:*=p | must 2 b=b,c=c,d=d,e=e,f=f,g=g,h=h,p=p"), (1,)),
    ("n:1", CHAIN.replace("p:1=q", "p:*=p | must 2 b=b,c=c,d=d,e=e,f=f,g=g,h=h,p=p | must 1 2=2"), (1,)),
    ("n:1..3", "walk 1 p p:1=q,p:2=p,p:3=p,q:*=q | keep 2 w:q | must 1 1=1,2=2,3=3", None),
    ("n:1..3", "walk 1 p p:1=q,p:2=p,p:3=p,q:*=p | keep 2 w:q | must 1 1=1", None),
    ("n:1..3", "walk 1 p p:1=q,p:2=p,p:3=p,q:*=p | keep 2 w:p | must 1 2=2,3=3", (2,)),
    # sort, apart, count, sum, number, first
    ("n:1..4", f"sort 1- | must 1 {THREE}", (1,)),
    ("n:1..4", f"apart | must 1 {THREE}", (1,)),
    ("n:1..4", f"number | must 1 {THREE}", (1,)),
    ("n:1..4", f"count 1 | must 1 {THREE}", (1,)),
    ("n:1..4 n:1", f"count 2 | must 1 {THREE}", None),
    ("n:1..4", f"sum 1 of 1 | must 1 {THREE}", (1,)),
    ("n:1..4 n:1", f"sum 2 of 1 | must 1 {THREE}", None),
    ("n:1..4", f"first 0 | must 1 {THREE}", None),
    ("n:1..4", f"first 1 | must 1 {THREE}", (1,)),
    ("n:1..4", f"sort 1 | first 1 | must 1 {THREE}", (2,)),
    ("n:1..3", f"sort 1 | first 1 | must 1 {THREE}", None),
    ("n:1..4", f"walk 1 p p:*=p | first 0 | must 1 {THREE}", None),
    ("n:1..4", f"walk 1 p p:*=p | sort 1 | apart | must 1 {THREE}", (3,)),
    ("n:1..4", "walk 1 p p:*=q,q:*=p | count 2 | must 1 q=q", (2,)),
    # both: the one branch, the other or both bring the cell
    ("n:1..4", f"both (must 1 {THREE}) (all)", (0, 0, 0)),
    ("n:1..4", f"both (all) (must 1 {THREE})", (0, 1, 0)),
    ("n:1..4", f"both (must 1 {THREE},4=4) (must 1 {THREE})", (0, 1, 0)),
    ("n:1..4", f"both (keep 1 n:4) (keep 1 n:1) | must 1 {THREE}", (1,)),
    ("n:1..4", f"both (keep 1 n:1) (keep 1 n:4) | must 1 {THREE}", (1,)),
    ("n:1..4", f"both (keep 1 n:1) (turn 1 4=3) | must 1 {THREE}", None),
    ("n:1..4", f"both (keep 1 n:9) (keep 1 n:8) | must 1 {THREE}", None),
    ("n:1..4", f"both (all) (all) | must 1 {THREE}", (1,)),
    ("n:1..4", f"both (both (keep 1 n:1) (both (keep 1 n:2) (keep 1 n:4))) (keep 1 n:3) | must 1 {THREE}", (1,)),
    ("n:1..4", f"both (both (keep 1 n:1) (both (keep 1 n:2) (must 1 {THREE}))) (all)", (0, 0, 0, 1, 0, 1, 0)),
    ("n:1..4", f"both (both (keep 1 n:1) (both (keep 1 n:2) (keep 1 n:2))) (keep 1 n:3) | must 1 {THREE}", None),
    ("n:1..2", "both (walk 1 p p:1=q,p:2=p,q:*=p) (walk 1 r r:*=r) | must 2 p=p,q=q", (1,)),
    ("n:1..2", "both (walk 1 p p:1=q,p:2=p,q:*=p) (walk 1 r r:*=r) | must 2 p=p,q=q,r=r", None),
    ("n:1..2", "both (walk 1 p p:1=q,p:2=p,q:2=p) (walk 1 r -)", (0, 0, 0)),
    # meet: columns that meet in some cells or in none
    ("n:1..3 n:3..5", "meet 1 2 (all) (all) | must 1 3=3", None),
    ("n:1..3 n:3..5", "meet 1 2 (all) (all) | must 1 1=1", (1,)),
    ("n:1..3 n:4..5", "meet 1 2 (all) (all) | must 1 9=9", None),
    ("n:1..3 n:3..5", "meet 1 2 (keep 1 n:..2) (all) | must 1 9=9", None),
    ("n:1..3 n:3..5", "meet 1 2 (all) (must 2 3=3,4=4)", (0, 1, 0)),
    ("n:1..3 n:3..5", "meet 1 2 (must 1 1=1) (must 2 3=3,4=4)", (0, 0, 0)),
    ("n:1..2 w:a,b", "meet 1 1 (keep 2 w:a) (keep 2 w:b) | keep 1 n:1 | must 2 a=a | must 3 b=b", None),
    ("n:1..2 w:a,b", "meet 1 1 (keep 2 w:a) (all) | must 2 a=a | must 3 b=b", (2,)),
    ("n:1..2 n:1..2", "meet 2 1 (all) (all) | meet 3 1 (cut 1 2 3) (cut 1 2 3) | keep 1 n:1 | must 5 1=1", (3,)),
    ("n:1..2", "meet 1 1 (turn 1 1=5) (all) | must 1 2=2", None),
    ("n:1..2", "both (all) (meet 1 1 (all) (all)) | must 1 1=1", (1,)),
    ("n:1..2", "both (meet 1 1 (all) (all)) (meet 1 1 (all) (must 1 1=1))", (0, 1, 0, 1, 0)),
)

# Kind, pipe, place, a row that comes there, one that doesn't.
BROUGHT = (
    ("n:1..3", "all", (0,), (2,), (4,)),
    ("n:..", "all", (0,), (LONG,), ("a",)),
    ("w:*", "all", (0,), ("zzzzzzzz",), (0,)),
    ("n:1..3 w:a,b", "keep 1 n:2.. | cut 2", (2,), ("b",), ("c",)),
    ("n:1..3 w:a,b", "keep 1 n:2.. | cut 2", (1,), (3, "b"), (1, "b")),
    ("n:1..3 w:a,b", "keep 1 n:2.. | cut 2", (0,), (1, "b"), (4, "b")),
    ("n:1..3", "cut 1 1", (1,), (2, 2), (1, 2)),
    ("n:1..3", "turn 1 1=7", (1,), (7,), (1,)),
    ("n:1..3", "cut 1 1 | turn 2 1=7", (2,), (1, 7), (2, 7)),
    ("n:1..3 n:2..4", "same 1 2", (1,), (3, 3), (1, 1)),
    ("n:1..3 n:2..4", "same 1 2", (1,), (2, 2), (2, 3)),
    ("n:1..3", "must 1 1=a,2=b,3=a | cut 1 1", (2,), ("a", "a"), ("a", "b")),
    ("n:1..3", "walk 1 p p:1=q,p:*=p,q:2=r,q:*=q,r:*=r", (1,), (3, "r"), (1, "p")),
    ("n:1..3", "walk 1 p p:1=q,p:*=p,q:2=r,q:*=q,r:*=r", (1,), (2, "r"), (3, "z")),
    ("n:1", CHAIN.replace("p:1=q", "p:*=p"), (1,), (1, "p"), (1, "a")),
    ("n:1..3", "sort 1 | apart | first 1", (3,), (3,), (4,)),
    ("n:1..3", "first 0", (1,), None, (1,)),
    ("n:1..3", "first 0", (0,), (1,), (0,)),
    ("n:1..3", "number | cut 1", (2,), (1,), (1, 1)),
    ("n:1..3 w:a", "count 2 1 | cut 2 1", (2,), (1, "a"), (1, "b")),
    ("n:1..3", "both (turn 1 1=4) (turn 1 1=5)", (1,), (4,), (1,)),
    ("n:1..3", "both (turn 1 1=4) (turn 1 1=5)", (1,), (5,), (6,)),
    ("n:1..3", "both (turn 1 1=4) (turn 1 1=5)", (0, 1, 1), (5,), (4,)),
    ("n:1..3", "both (turn 1 1=4) (turn 1 1=5)", (0, 0, 0), (1,), (4,)),
    ("n:1..3 w:a,b", "meet 1 1 (all) (all)", (1,), (2, "a", "b"), (4, "a", "a")),
    ("n:1..3 w:a,b", "meet 2 2 (all) (all) | meet 2 2 (cut 1 2) (all)", (2,), (1, "a", 2, 3), (1, "c", 1, 1)),
    ("n:1..3 n:4", "meet 1 2 (all) (all)", (1,), None, (1, 4, 4)),
    ("n:1..3 n:3", "meet 1 2 (all) (all)", (1,), (3, 3, 2), (2, 3, 2)),
    ("n:1..3", "both (all) (both (all) (both (keep 1 n:2) (turn 1 1=9) | keep 1 n:4..))", (0, 1, 0, 1, 2), (9,), (1,)),
    ("n:-", "all", (0,), None, (1,)),
    ("n:1 w:-", "cut 1", (1,), None, (1,)),
    ("n:1 w:-", "walk 1 a - | cut 3", (2,), None, ("a",)),
    ("n:1..3", "meet 1 1 (all) (all) | meet 1 1 (all) (all) | meet 1 1 (all) (all) | meet 1 1 (all) (all)", (4,), (2,), (4,)),
)



def times(text, many):
    """The workers of a text so many times, one behind another."""
    return " | ".join([text] * many)


DOUBLED = "both (all) (all)"
MET = "meet 1 1 (all) (all)"
TURNED = "turn 1 1=1,2=2,3=3,4=4 | turn 2 1=1,2=2,3=3,4=4 | turn 3 1=1,2=2,3=3,4=4,5=5,6=6,7=7"
TURNED_MORE = TURNED + ",8=8"
# States a to j, and to k, the last one ten rows from the first; with a shorter way to it.
TEN = "walk 1 a a:1=b,b:*=c,c:*=d,d:*=e,e:*=f,f:*=g,g:*=h,h:*=i,i:*=j,j:*=j"
ELEVEN = TEN.replace("j:*=j", "j:*=k,k:*=k")
SHORTCUT = ELEVEN.replace("a:1=b", "a:1=b,a:2=j")
SHORTCUTS = (SHORTCUT, ELEVEN.replace("a:1=b", "a:2=x,a:1=b,x:*=j"), ELEVEN.replace("a:1=b", "a:1=b,a:2=x,x:*=j"))
# The state j is left to k, and k to j: ways of nine and eleven rows to j, of ten to k.
BACK = ELEVEN.replace("k:*=k", "k:*=j")

REFUSED = (
    ("n:..", "keep 2 n:..", (0,), "column"),
    ("w:-", "keep 1 n:..", (0,), "sort"),
    ("n:..", "both (number) (all)", (0,), "sort"),
    ("n:1", "must 1 2=2 | both (all) (cut 2)", (1, 1, 0), "column"),
    ("n:1", times(DOUBLED, 8) + " | sum 9 of 9", (8,), "column"),
    ("n:1", "apart | walk 1 a -", (1,), "rows"),
    ("n:1", "both (all) (all) | first 1 | must 1 2=2", (2,), "loose"),
)

# Kind, pipe: 200 ways at a place and twenty rows a way are looked at.
FEW = (
    ("n:1", times(DOUBLED, 7)),
    ("n:.. n:.. n:..", TURNED),
    ("n:.. n:.. n:..", f"both ({TURNED}) (keep 1 n:-)"),
    ("n:.. n:.. n:..", f"both (first 0) ({TURNED})"),
    ("n:.. n:.. n:..", TURNED_MORE.replace("turn 3", "keep 3 n:9.. | turn 3")),
    ("n:.. n:.. n:..", TURNED_MORE.replace("turn 3", "keep 3 n:..0,2.. | turn 3")),
    ("n:- n:.. n:..", TURNED_MORE),
    ("n:1", times(MET, 4)),
    ("n:1", f"{TEN} | {MET}"),
    ("n:1", ELEVEN),
    ("n:1", f"{BACK} | meet 1 1 (keep 2 w:k) (keep 2 w:k)"),
) + tuple(("n:1..2", f"{walk} | {MET}") for walk in SHORTCUTS)

# The same, just beyond.
MANY = (
    ("n:1", times(DOUBLED, 8)),
    ("n:1", times(DOUBLED, 8) + " | keep 1 n:-"),
    ("n:1", times(DOUBLED, 8) + " | cut 1 1"),
    ("n:1", f"both ({times(DOUBLED, 7)}) ({times(DOUBLED, 7)})"),
    ("n:.. n:.. n:..", TURNED_MORE),
    ("n:.. n:.. n:..", f"both ({TURNED}) (all)"),
    ("n:.. n:.. n:..", f"both (all) ({TURNED})"),
    ("n:.. n:.. n:..", f"both (both (all) ({TURNED_MORE})) (all)"),
    ("n:.. n:..", "turn 1 1=1,2=2,3=3,4=4,5=5,6=6 | turn 2 1=1,2=1 | meet 2 2 (all) (all) | keep 1 n:-"),
    ("n:1", times(MET, 5)),
    ("n:1", f"{ELEVEN} | {MET}"),
    ("n:1", f"{BACK} | meet 1 1 (keep 2 w:j) (keep 2 w:k)"),
    ("n:1", f"walk 1 a a:1=b,b:1=c,c:1=d,d:1=e,e:1=f,f:1=f | cut 1 | {MET} | {MET}"),
    ("n:1", f"walk 1 a a:1=b,b:1=c,c:1=d,d:1=d | cut 1 | {times(MET, 3)}"),
)


def outcome(pipe, rows):
    try:
        return told(pipe, rows)
    except Falls as fall:
        return fall.place


class FirstFall(unittest.TestCase):
    def check_fall(self, kind, pipe, found):
        place, rows = found
        self.assertIs(type(rows), list)
        self.assertLessEqual(len(rows), 20)
        self.assertTrue(all(type(row) is tuple and is_of(kind, row) for row in rows), (kind, rows))
        self.assertEqual(outcome(pipe, rows), place, (kind, pipe, rows))

    def test_the_first_place_and_rows(self):
        for kind_text, text, place in FALLS:
            kind, pipe = read_kind(kind_text), read_pipe(text)
            with self.subTest(kind=kind_text, pipe=text):
                found = first_fall(kind, pipe)
                if place is None:
                    self.assertIsNone(found)
                else:
                    self.assertIs(type(found), tuple)
                    self.assertEqual(found[0], place)
                    self.check_fall(kind, pipe, found)

    def test_held_against_all_rows_of_small_kinds(self):
        seen = {None: 0, "one": 0, "more": 0}
        for names, seed in ((ONE_ROW, 10), (ONE_ROW + ("walk", "both"), 11), (ONE_ROW + ("meet", "both"), 12)):
            for kind, pipe in cases(400, names=names, seed=seed):
                self.hold_against_all_rows(kind, pipe, seen)
        for kind, pipe in cases(1200, seed=13):
            self.hold_against_all_rows(kind, pipe, seen)
        self.assertGreater(min(seen.values()), 10, seen)

    def hold_against_all_rows(self, kind, pipe, seen):
        found = first_fall(kind, pipe)
        order = places(pipe)
        fallen = [outcome(pipe, rows) for rows in lists_of(kind)]
        first = min([order.index(place) for place in fallen if isinstance(place, tuple)], default=None)
        if found is None:
            self.assertIsNone(first, (kind, pipe))
            seen[None] += 1
            return
        self.check_fall(kind, pipe, found)
        if first is not None:
            self.assertLessEqual(order.index(found[0]), first, (kind, pipe))
        seen["one" if len(found[1]) == 1 else "more"] += 1

    def test_what_is_not_put_together(self):
        for kind_text, text, place, why in REFUSED:
            kind, pipe = read_kind(kind_text), read_pipe(text)
            for asked in (lambda: first_fall(kind, pipe), lambda: bringing(kind, pipe, (0,), (1,)),
                          lambda: bringing(kind, pipe, (), (1,)), lambda: bringing(kind, pipe, (99,), (1,))):
                with self.assertRaises(NoPipe, msg=text) as caught:
                    asked()
                self.assertEqual((caught.exception.place, caught.exception.why), (place, why))

    def test_what_is_handed_in_stays_and_what_is_told_is_the_askers_own(self):
        for kind_text, text, place in FALLS:
            kind, pipe = read_kind(kind_text), read_pipe(text)
            found = first_fall(kind, pipe)
            if found is not None:
                again = (found[0], list(found[1]))
                found[1].clear()
                self.assertEqual(first_fall(kind, pipe), again)
            self.assertEqual((kind, pipe), (read_kind(kind_text), read_pipe(text)))
            kind.append(None)
            self.assertEqual(first_fall(read_kind(kind_text), pipe) is None, place is None)


class Bringing(unittest.TestCase):
    def check_brought(self, kind, pipe, place, row, found):
        self.assertIs(type(found), list)
        self.assertLessEqual(len(found), 20)
        self.assertTrue(all(type(one) is tuple and is_of(kind, one) for one in found), (kind, found))
        self.assertIn(row, rows_at(pipe, found, place), (kind, pipe, place))

    def test_rows_that_bring_a_row(self):
        for kind_text, text, place, there, absent in BROUGHT:
            kind, pipe = read_kind(kind_text), read_pipe(text)
            with self.subTest(kind=kind_text, pipe=text, place=place):
                if there is not None:
                    self.check_brought(kind, pipe, place, there, bringing(kind, pipe, place, there))
                    self.assertIsNone(bringing(kind, pipe, place, there + there[:1]))
                    self.assertIsNone(bringing(kind, pipe, place, there[:-1]))
                    for at, cell in enumerate(there):
                        other = there[:at] + (7 if isinstance(cell, str) else "seven",) + there[at + 1:]
                        self.assertIsNone(bringing(kind, pipe, place, other))
                self.assertIsNone(bringing(kind, pipe, place, absent))

    def test_held_against_all_rows_of_small_kinds(self):
        brought = 0
        for names, seed in ((ONE_ROW + ("walk", "both"), 21), (ONE_ROW + ("meet", "both", "sort"), 22), (None, 23)):
            for kind, pipe in cases(200, names=names, seed=seed) if names else cases(500, seed=seed):
                if first_fall(kind, pipe) is None:
                    brought += self.hold_against_all_rows(kind, pipe)
        self.assertGreater(brought, 2000)

    def hold_against_all_rows(self, kind, pipe):
        brought = 0
        for place in places(pipe):
            try:
                bringing(kind, pipe, place, ())
            except NoPlace:
                continue
            come = {row for rows in lists_of(kind, 40) for row in rows_at(pipe, rows, place)}
            wide = {len(row) for row in come} or {1}
            tried = itertools.islice(itertools.product(NUMBERS + WORDS + STATES[:2], repeat=max(wide)), 0, None, 7)
            for row in sorted(come, key=str) + [row for row in itertools.islice(tried, 30) if row not in come]:
                found = bringing(kind, pipe, place, row)
                if row in come:
                    self.assertIsNotNone(found, (kind, pipe, place, row))
                if found is not None:
                    self.check_brought(kind, pipe, place, row, found)
                    brought += 1
        return brought

    def test_every_place_but_loose_ones_and_ones_with_a_tally(self):
        for kind, pipe in cases(400, seed=24):
            head = head_of(kind)
            let_by = first_fall(kind, pipe) is None
            heads = {place: there for place, there, loose in survey(head, pipe)}
            for place in places(pipe):
                told_there = let_by and not is_loose(head, pipe, place) and "t" not in heads[place]
                if told_there:
                    bringing(kind, pipe, place, (1,))
                else:
                    with self.assertRaises(NoPlace, msg=(kind, pipe, place)):
                        bringing(kind, pipe, place, (1,))

    def test_places_that_are_none(self):
        for text in ("all", "apart", "both (all) (apart)", "meet 1 1 (all) (cut 1) | sort 1"):
            pipe = read_pipe(text)
            there = places(pipe)
            wrong = [(), (-1,), (9,), (0, 0), (0, 1), (0, 2, 0), (0, -1, 0), (1, 0, 0), (0, 0, 9), (0, 0, 0, 0)]
            wrong += [place + (0,) for place in there] + [place + (0, 0) for place in there]
            for place in wrong:
                if place not in there:
                    with self.assertRaises(NoPlace, msg=(text, place)):
                        bringing(read_kind("n:1"), pipe, place, (1,))

    def test_loose_places_and_tallies_and_pipes_that_fall(self):
        for kind, text, place in (
                ("n:1", "number", (1,)), ("n:1", "count 1 | apart", (2,)), ("n:1", "sum of 1", (1,)),
                ("n:1", "both (all) (all) | first 1", (2,)), ("n:1", "walk 1 p p:*=p | first 1", (2,)),
                ("n:1", "first 1 | meet 1 1 (all) (all)", (2,)), ("n:1", "number | keep 2 n:1 | cut 1", (3,)),
                ("n:-", "number", (1,)), ("n:-", "both (all) (all) | first 1", (2,)),
                ("n:1..2", "must 1 1=1", (0,)), ("n:1..2", "must 1 1=1", (1,)),
                ("n:1..2", "both (all) (must 1 1=1)", (0, 0, 0)), ("n:1..2", "walk 1 p p:1=p", (0,))):
            with self.assertRaises(NoPlace, msg=(text, place)):
                bringing(read_kind(kind), read_pipe(text), place, (1,))

    def test_what_is_handed_in_stays_and_what_is_told_is_the_askers_own(self):
        for kind_text, text, place, there, absent in BROUGHT:
            kind, pipe = read_kind(kind_text), read_pipe(text)
            if there is not None:
                found = bringing(kind, pipe, place, there)
                again = list(found)
                found.append(None)
                self.assertEqual(bringing(kind, pipe, place, there), again)
            self.assertEqual((kind, pipe), (read_kind(kind_text), read_pipe(text)))


class Many(unittest.TestCase):
    def test_as_many_as_are_looked_at(self):
        for kind, text in FEW:
            self.assertIsNone(first_fall(read_kind(kind), read_pipe(text)), text)
            self.assertIsNone(bringing(read_kind(kind), read_pipe(text), (0,), ("none",) * 6))

    def test_more_than_are_looked_at(self):
        for kind, text in MANY:
            with self.assertRaises(TooMany, msg=text):
                first_fall(read_kind(kind), read_pipe(text))
            with self.assertRaises(TooMany, msg=text):
                bringing(read_kind(kind), read_pipe(text), (0,), (1,))

    def test_no_place_comes_ahead_of_too_many(self):
        for kind, text in MANY:
            with self.assertRaises(NoPlace, msg=text):
                bringing(read_kind(kind), read_pipe(text), (99,), (1,))

    def test_of_a_fall_and_too_many_the_first_in_running_order(self):
        seven, eight = times(DOUBLED, 7), times(DOUBLED, 8)
        for text, place in (
                (f"must 1 1=1 | {eight}", (0,)),
                (f"{seven} | must 1 1=1 | {DOUBLED}", (7,)),
                (f"{eight} | apart | must 1 1=1", None),
                (f"both (must 1 1=1) ({eight})", (0, 0, 0)),
                (f"both ({eight}) (must 1 1=1)", None),
                (f"both ({seven}) ({seven} | must 1 1=1)", (0, 1, 7)),
                (f"both ({seven}) ({seven}) | apart | must 1 1=1", None),
                (f"{times(MET, 4)} | must 1 1=1", (4,)),
                (f"{times(MET, 4)} | must 1 1=1 | {MET}", (4,)),
                (f"{times(MET, 5)} | apart | must 1 1=1", None),
                (f"walk 1 a a:1=a | {eight}", (0,))):
            kind, pipe = read_kind("n:1..2"), read_pipe(text)
            if place is None:
                with self.assertRaises(TooMany, msg=text):
                    first_fall(kind, pipe)
                with self.assertRaises(TooMany, msg=text):
                    bringing(kind, pipe, (0,), (1,))
            else:
                self.assertEqual(first_fall(kind, pipe)[0], place, text)
                with self.assertRaises(NoPlace, msg=text):
                    bringing(kind, pipe, (0,), (1,))


if __name__ == "__main__":
    unittest.main()
