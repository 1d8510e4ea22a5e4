"""Facts at the places of a pipe (point 22)."""

import unittest

from rowpipes.errors import Falls, NoPipe, NoPlace
from rowpipes.facts import facts_at
from rowpipes.kinds import head_of, read_kind
from rowpipes.pipetexts import read_pipe
from rowpipes.places import places
from samples import cases, lists_of, rows_at
from test_coming import MANY, REFUSED

N1, W3 = "n:..", "n:1..3 w:a,b n:.."


def order(text):
    """An order as sort writes it: `1 2-`; none as a text without signs."""
    return tuple((int(word.rstrip("-")), word.endswith("-")) for word in text.split())


# Kind, pipe, and at its last place: order, most, unlike.
AT_END = (
    (N1, "all", "", None, False),
    # keep, same: unlike False, all else stays
    (W3, "sort 3- 1 | apart | first 5 | keep 1 n:1", "3- 1", 5, False),
    (W3, "sort 3- 1 | apart | first 5 | same 1 3", "3- 1", 5, False),
    (W3, "keep 1 n:1", "", None, False),
    # cut: up to the first column that isn't there any more, by its first place; unlike if all are there
    (W3, "sort 3- 1 2 | apart | first 5 | cut 1 2 3", "3- 1 2", 5, True),
    (W3, "sort 3- 1 2 | apart | first 5 | cut 3 2 1", "1- 3 2", 5, True),
    (W3, "sort 3- 1 2 | apart | first 5 | cut 3 2", "1-", 5, False),
    (W3, "sort 3- 1 2 | apart | first 5 | cut 1 3", "2- 1", 5, False),
    (W3, "sort 3- 1 2 | apart | first 5 | cut 1 2", "", 5, False),
    (W3, "sort 3- 1 2 | apart | first 5 | cut 2", "", 5, False),
    (W3, "sort 3- 1 2 | apart | first 5 | cut 3 1 3 2 1", "1- 2 4", 5, True),
    (W3, "sort 3- 1 2 | apart | first 5 | cut 1 1 3", "3- 1", 5, False),
    (W3, "sort 2 | apart | cut 1 2 3 1 2 3", "2", None, True),
    (W3, "sort 2 | cut 1 2 3", "2", None, False),
    (W3, "apart | cut 1 1 2 2 3 3", "", None, True),
    # turn, must: up to their column
    (W3, "sort 3- 1 2 | apart | first 5 | turn 3 1=2", "", 5, False),
    (W3, "sort 3- 1 2 | apart | first 5 | turn 1 1=2", "3-", 5, False),
    (W3, "sort 3- 1 2 | apart | first 5 | turn 2 a=b", "3- 1", 5, False),
    (W3, "sort 3- 1 | apart | first 5 | turn 2 a=b", "3- 1", 5, False),
    (W3, "sort 3- 1 2 | apart | first 5 | must 1 1=a,2=b,3=a", "3-", 5, False),
    (W3, "sort 3- 1 | apart | first 5 | must 2 a=1,b=2", "3- 1", 5, False),
    (W3, "sort 3- | turn 3 1=1", "", None, False),
    # walk: nothing is named
    (W3, "walk 1 p p:*=p", "", None, False),
    # sort: its columns, then the other ones of the order
    (W3, "sort 1", "1", None, False),
    (W3, "sort 1 2-", "1 2-", None, False),
    (W3, "sort 1 | sort 2", "2 1", None, False),
    (W3, "sort 1 2- | sort 2", "2 1", None, False),
    (W3, "sort 1 2- 3 | sort 3- 1-", "3- 1- 2-", None, False),
    (W3, "sort 1 2- 3 | sort 1 2- 3", "1 2- 3", None, False),
    (W3, "sort 1 2- 3 | apart | first 4 | sort 2-", "2- 1 3", 4, False),
    # apart: unlike True
    (W3, "apart", "", None, True),
    (W3, "sort 1 | first 7 | apart", "1", 7, True),
    # count, sum: up to the first column that isn't among theirs; unlike True
    (W3, "count", "", None, True),
    (W3, "sort 3- 1 2 | first 5 | count 1 2 3", "3- 1 2", 5, True),
    (W3, "sort 3- 1 2 | first 5 | count 2 3", "2-", 5, True),
    (W3, "sort 3- 1 2 | first 5 | count 1 2", "", 5, True),
    (W3, "sort 3- 1 2 | first 5 | count", "", 5, True),
    (W3, "sort 3- 1 2 | first 5 | count 3 3 1", "1- 3", 5, True),
    (W3, "sort 3- 1 2 | first 5 | sum 1 3 of 1", "2- 1", 5, True),
    (W3, "sort 3- 1 2 | first 5 | sum of 1", "", 5, True),
    (W3, "sort 3- 1 2 | sum 3 3 3 3 3 of 3", "1-", None, True),
    # number: the new column behind the order
    (W3, "number", "4", None, True),
    (W3, "sort 3- 1 | first 5 | number", "3- 1 4", 5, True),
    (W3, "number | number", "4 5", None, True),
    (W3, "number | sort 1 | cut 4 1", "2 1", None, False),
    (W3, "number | sort 4-", "4-", None, False),
    ("n:.. n:..", "count 1 | sort 2- | number", "2- 3", None, True),
    # first: the least
    (W3, "first 5", "", 5, False),
    (W3, "first 0", "", 0, False),
    (W3, "first 5 | first 7", "", 5, False),
    (W3, "first 7 | first 5", "", 5, False),
    (W3, "apart | sort 1 | apart | first 60", "1", 60, True),
    # both: no order, the mosts added
    (N1, "both (all) (all)", "", None, False),
    (N1, "sort 1 | apart | both (all) (all)", "", None, False),
    (N1, "sort 1 | apart | both (first 2) (first 3)", "", 5, False),
    (N1, "both (first 2) (all)", "", None, False),
    (N1, "both (all) (first 2)", "", None, False),
    (N1, "first 4 | both (all) (first 3)", "", 7, False),
    (N1, "first 4 | both (first 9) (first 0)", "", 4, False),
    (N1, "both (first 0) (first 0) | apart", "", 0, True),
    (N1, "both (both (first 1) (first 2)) (both (first 3) (both (first 4) (first 5)))", "", 15, False),
    # meet: the first branch's order, the mosts multiplied
    (W3, "sort 3- 1 | apart | meet 1 1 (all) (all)", "3- 1", None, False),
    (W3, "sort 3- 1 | apart | meet 1 1 (cut 1 2) (all)", "", None, False),
    (W3, "sort 3- 1 | apart | meet 2 1 (cut 3 1) (all)", "1- 2", None, False),
    (W3, "sort 3- 1 | meet 1 1 (turn 1 1=2) (cut 1)", "3-", None, False),
    (W3, "sort 3- 1 | meet 1 1 (cut 1) (all)", "", None, False),
    (W3, "first 3 | meet 1 1 (all) (all)", "", 9, False),
    (W3, "first 0 | meet 1 1 (all) (keep 1 n:2)", "", 0, False),
    (N1, "first 3 | meet 1 1 (all) (all) | meet 1 1 (all) (all)", "", 81, False),
)

# Kind, pipe, and at each place in running order: order, most, unlike.
AT_PLACES = (
    (N1, "all", (("", None, False),)),
    (N1, "sort 1 | apart | first 2", (("", None, False), ("1", None, False), ("1", None, True), ("1", 2, True))),
    (N1, "sort 1 | both (apart | first 2) (number | cut 1) | sort 1-", (
        ("", None, False), ("1", None, False), ("1", None, False), ("1", None, True), ("1", 2, True),
        ("1", None, False), ("1 2", None, True), ("1", None, False), ("", None, False), ("1-", None, False))),
    (N1, "apart | both (both (all) (first 3)) (first 1 | both (first 9) (all))", (
        ("", None, False), ("", None, True), ("", None, True), ("", None, True), ("", None, True), ("", 3, True), ("", None, False),
        ("", None, True), ("", 1, True), ("", 1, True), ("", 1, True), ("", 1, True), ("", 2, False), ("", None, False))),
    ("n:.. w:*", "sort 2 1- | first 4 | apart | meet 1 1 (cut 2 2 1 | turn 2 a=b | cut 3) (keep 1 n:1) | number", (
        ("", None, False), ("2 1-", None, False), ("2 1-", 4, False), ("2 1-", 4, True), ("2 1-", 4, True), ("1 3-", 4, True),
        ("1 3-", 4, False), ("", 4, False), ("2 1-", 4, True), ("2 1-", 4, False), ("", 16, False), ("3", 16, True))),
)


def is_sorted(rows, known):
    """Whether the rows stand in this order, each row and the next one looked at."""
    for one, other in zip(rows, rows[1:]):
        for column, greatest_first in known:
            if one[column - 1] != other[column - 1]:
                if (one[column - 1] > other[column - 1]) != greatest_first:
                    return False
                break
    return True


class Facts(unittest.TestCase):
    def test_behind_each_worker(self):
        for kind, text, known, most, unlike in AT_END:
            pipe = read_pipe(text)
            found = facts_at(read_kind(kind), pipe, (len(pipe),))
            self.assertEqual(found, (order(known), most, unlike), text)
            self.assertEqual(repr(found), repr((order(known), most, unlike)), text)

    def test_at_each_place(self):
        for kind, text, known in AT_PLACES:
            pipe = read_pipe(text)
            self.assertEqual(len(places(pipe)), len(known), text)
            for place, (columns, most, unlike) in zip(places(pipe), known):
                self.assertEqual(facts_at(read_kind(kind), pipe, place), (order(columns), most, unlike), (text, place))

    def test_a_walk_leaves_what_is_known(self):
        # One-row workers alone stand ahead of a walk, so little is known there; within that, nothing changes.
        for text in ("walk 1 p p:*=p", "keep 1 n:1 | walk 1 p p:*=p"):
            pipe = read_pipe(text)
            self.assertEqual(facts_at(read_kind(N1), pipe, (len(pipe),)), ((), None, False))
        self.assertEqual(facts_at(read_kind(N1), read_pipe("walk 1 p p:*=p | sort 2 | number"), (3,)), (((2, False), (3, False)), None, True))

    def test_they_are_so_of_all_rows_of_the_kind(self):
        seen = {"order": 0, "most": 0, "unlike": 0}
        for kind, pipe in cases(700, seed=61):
            lists = lists_of(kind, 60)[-25:]
            for place in places(pipe):
                known, most, unlike = facts_at(kind, pipe, place)
                seen["order"] += known != ()
                seen["most"] += most is not None
                seen["unlike"] += unlike
                for rows in lists:
                    try:
                        here = rows_at(pipe, rows, place)
                    except Falls:
                        continue
                    self.assertTrue(is_sorted(here, known), (pipe, place, rows))
                    self.assertTrue(most is None or len(here) <= most, (pipe, place, rows))
                    self.assertFalse(unlike and any(one == other for one, other in zip(here, here[1:])), (pipe, place, rows))
        self.assertGreater(min(seen.values()), 150, seen)

    def test_neither_falls_nor_ways_are_asked(self):
        self.assertEqual(facts_at(read_kind("n:1..2"), read_pipe("sort 1 | must 1 1=1"), (1,)), (((1, False),), None, False))
        for kind, text in MANY:
            facts_at(read_kind(kind), read_pipe(text), (0,))
        self.assertEqual(facts_at(read_kind("n:-"), read_pipe("number"), (1,)), (((2, False),), None, True))


class Refused(unittest.TestCase):
    def test_no_pipe_ahead_of_no_place(self):
        for kind, text, place, why in REFUSED:
            for asked in ((0,), (), (99,), (0, 0, 0), (-1,)):
                with self.assertRaises(NoPipe, msg=text) as caught:
                    facts_at(read_kind(kind), read_pipe(text), asked)
                self.assertEqual((caught.exception.place, caught.exception.why), (place, why))

    def test_places_that_are_none(self):
        for text in ("all", "apart", "both (all) (apart)", "meet 1 1 (all) (cut 1) | sort 1"):
            pipe = read_pipe(text)
            there = places(pipe)
            wrong = [(), (-1,), (9,), (0, 0), (0, 1), (0, 2, 0), (0, -1, 0), (1, 0, 0), (0, 0, 9), (0, 0, 0, 0), (0, 0, 0, 0, 0)]
            wrong += [place + (0,) for place in there] + [place[:-1] for place in there]
            for place in wrong:
                if place not in there:
                    with self.assertRaises(NoPlace, msg=(text, place)):
                        facts_at(read_kind("n:1"), pipe, place)

    def test_what_is_handed_in_stays(self):
        for kind_text, text, known in AT_PLACES:
            kind, pipe = read_kind(kind_text), read_pipe(text)
            for place in places(pipe):
                first = facts_at(kind, pipe, place)
                self.assertEqual((kind, pipe), (read_kind(kind_text), read_pipe(text)))
                self.assertEqual(facts_at(kind, pipe, place), first)
            self.assertEqual(head_of(kind), head_of(read_kind(kind_text)))


if __name__ == "__main__":
    unittest.main()
