"""Papers told of pipes that are let by (points 15 to 18)."""

import unittest

from paperlook import paper_holds
from rowpipes.coming import first_fall
from rowpipes.errors import Falling, Falls, NoPipe, TooMany
from rowpipes.heads import survey
from rowpipes.kinds import head_of, is_of, read_kind
from rowpipes.papers import paper_of
from rowpipes.pipetexts import read_pipe
from rowpipes.places import places
from rowpipes.running import told
from rowpipes.sets import has, read_set
from samples import ONE_ROW, cases, lists_of, rows_at
from test_coming import BROUGHT, FALLS, FEW, MANY, MET, DOUBLED, REFUSED, times

N123 = read_set("n:1..3")
ANY = ("any",)

# Kind, pipe, its paper, where just one is looked for: ways of one place, states.
PAPERS = (
    ("n:1..3", "all", [((0,), [((N123,), (("of", 0),))], ())]),
    ("n:1..3", "number | count", [
        ((0,), [((N123,), (("of", 0),))], ()),
        ((1,), [((N123,), (("of", 0), ANY))], ()),
        ((2,), [((), (ANY,))], ())]),
    ("n:-", "both (walk 1 p p:*=q) (walk 1 r -) | number", [
        ((0,), [], ()), ((0, 0, 0), [], ("p",)), ((0, 0, 1), [], ()), ((0, 1, 0), [], ("r",)), ((0, 1, 1), [], ()),
        ((1,), [], ()), ((2,), [], ())]),
)


def row_of(way, row):
    """Whether the row comes of the way."""
    sets, columns = way
    chosen = {}
    for entry, cell in zip(columns, row):
        if entry[0] == "is" and entry[1] != cell:
            return False
        if entry[0] == "of" and not (has(sets[entry[1]], cell) and chosen.setdefault(entry[1], cell) == cell):
            return False
    return len(row) == len(columns)


class Papers(unittest.TestCase):
    def check_form(self, kind, pipe, paper):
        self.assertIs(type(paper), list)
        self.assertEqual([place for place, ways, states in paper], places(pipe))
        for (place, ways, states), (there, head, loose) in zip(paper, survey(head_of(kind), pipe)):
            self.assertIs(type(ways), list)
            self.assertIs(type(states), tuple)
            for sets, columns in ways:
                self.assertTrue(type(sets) is tuple and type(columns) is tuple)
                self.assertEqual(["t" if entry == ANY else None for entry in columns],
                                 ["t" if sort == "t" else None for sort in head])
            if worker_at(pipe, place)[:1] != ("walk",):
                self.assertEqual(states, ())
            else:
                self.assertIn(worker_at(pipe, place)[2], states)
                self.assertEqual(list(states), sorted(set(states)))

    def test_papers_of_small_pipes(self):
        for kind, text, paper in PAPERS:
            self.assertEqual(paper_of(read_kind(kind), read_pipe(text)), paper, text)

    def test_states(self):
        for kind, text, states in (
                ("n:1..2", "walk 1 p p:1=q,p:*=p,q:*=q,z:*=z", ("p", "q")),
                ("n:2", "walk 1 p p:1=q,p:*=p,q:*=q,z:*=z", ("p",)),
                ("n:1", "walk 1 p p:1=q,p:*=p,q:1=a,a:*=q", ("a", "p", "q")),
                ("n:-", "walk 1 p p:1=q,p:*=p", ("p",)),
                ("n:1..2", "keep 1 n:3 | walk 1 z -", ("z",)),
                ("n:1", "walk 1 z z:1=y,z:*=x,y:1=y,y:2=w", ("y", "z"))):
            pipe = read_pipe(text)
            self.assertEqual(paper_of(read_kind(kind), pipe)[len(pipe) - 1][2], states, text)

    def test_each_one_holds(self):
        for kind_text, text in [case[:2] for case in FALLS if case[2] is None] + [case[:2] for case in BROUGHT] + list(FEW):
            kind, pipe = read_kind(kind_text), read_pipe(text)
            with self.subTest(kind=kind_text, pipe=text):
                paper = paper_of(kind, pipe)
                self.check_form(kind, pipe, paper)
                self.assertTrue(paper_holds(kind, pipe, paper))

    def test_each_one_of_many_pipes_holds(self):
        seen = {"holds": 0, "falls": 0}
        for names, seed in ((ONE_ROW + ("walk", "both"), 31), (ONE_ROW + ("meet", "both", "count"), 32), (None, 33)):
            for kind, pipe in cases(500, 3, names=names, seed=seed) if names else cases(1500, 3, seed=seed):
                fall = first_fall(kind, pipe)
                if fall is None:
                    paper = paper_of(kind, pipe)
                    self.check_form(kind, pipe, paper)
                    self.assertTrue(paper_holds(kind, pipe, paper), (kind, pipe))
                    seen["holds"] += 1
                else:
                    self.check_falling(kind, pipe, fall[0])
                    seen["falls"] += 1
        self.assertGreater(min(seen.values()), 200)

    def test_less_than_what_is_told_does_not_hold(self):
        # Of these the look that the tests take at papers must see that something lacks.
        for kind_text, text in (
                ("n:1..3", "turn 1 1=2 | must 1 2=2,3=3"), ("n:1..3", "walk 1 p p:1=q,p:*=p,q:*=p | must 2 p=p,q=q"),
                ("n:1..3", "both (turn 1 1=2) (meet 1 1 (all) (all)) | number"), ("n:1 w:a", "count 2 | sort 1")):
            kind, pipe = read_kind(kind_text), read_pipe(text)
            paper = paper_of(kind, pipe)
            for at, (place, ways, states) in enumerate(paper):
                less = [(place, [], states)]
                less += [(place, ways, states[1:]), (place, ways, states[:-1])] if states else []
                for entry in less:
                    self.assertFalse(paper_holds(kind, pipe, paper[:at] + [entry] + paper[at + 1:]), (text, entry))

    def test_all_rows_that_come_are_in_the_ways(self):
        seen = 0
        for kind, pipe in cases(500, seed=34):
            if first_fall(kind, pipe) is not None:
                continue
            for place, ways, states in paper_of(kind, pipe):
                for row in {row for rows in lists_of(kind, 30)[-8:] for row in rows_at(pipe, rows, place)}:
                    self.assertTrue(any(row_of(way, row) for way in ways), (kind, pipe, place, row))
                    seen += 1
        self.assertGreater(seen, 2000)

    def check_falling(self, kind, pipe, place):
        with self.assertRaises(Falling) as caught:
            paper_of(kind, pipe)
        found = caught.exception
        self.assertEqual(found.place, place)
        self.assertIs(type(found.rows), list)
        self.assertLessEqual(len(found.rows), 20)
        self.assertTrue(all(is_of(kind, row) for row in found.rows))
        with self.assertRaises(Falls) as fallen:
            told(pipe, found.rows)
        self.assertEqual(fallen.exception.place, place)

    def test_pipes_that_are_not_let_by(self):
        for kind, text, place in FALLS:
            if place is not None:
                with self.subTest(kind=kind, pipe=text):
                    self.check_falling(read_kind(kind), read_pipe(text), place)

    def test_what_is_not_put_together(self):
        for kind, text, place, why in REFUSED:
            with self.assertRaises(NoPipe, msg=text) as caught:
                paper_of(read_kind(kind), read_pipe(text))
            self.assertEqual((caught.exception.place, caught.exception.why), (place, why))

    def test_too_many(self):
        for kind, text in MANY:
            with self.assertRaises(TooMany, msg=text):
                paper_of(read_kind(kind), read_pipe(text))
        self.assertEqual(len(paper_of(read_kind("n:1"), read_pipe(times(DOUBLED, 7)))[-1][1]), 128)
        self.assertEqual(max(len(ways) for place, ways, states in paper_of(*read_few(1))), 200)

    def test_of_a_fall_and_too_many_the_first_in_running_order(self):
        eight = times(DOUBLED, 8)
        for text, refused in (
                (f"must 1 1=1 | {eight}", Falling), (f"{eight} | apart | must 1 1=1", TooMany),
                (f"both ({eight}) (must 1 1=1)", TooMany), (f"both (must 1 1=1) ({eight})", Falling),
                (f"{times(MET, 4)} | must 1 1=1 | {MET}", Falling), (f"{times(MET, 5)} | apart | must 1 1=1", TooMany)):
            with self.assertRaises(refused, msg=text):
                paper_of(read_kind("n:1..2"), read_pipe(text))

    def test_what_is_handed_in_stays_and_what_is_told_is_the_askers_own(self):
        for kind_text, text in [case[:2] for case in FALLS if case[2] is None]:
            kind, pipe = read_kind(kind_text), read_pipe(text)
            paper = paper_of(kind, pipe)
            again = [(place, list(ways), states) for place, ways, states in paper]
            for place, ways, states in paper:
                ways.append(None)
            paper.reverse()
            self.assertEqual(paper_of(kind, pipe), again)
            self.assertEqual((kind, pipe), (read_kind(kind_text), read_pipe(text)))
            kind.clear()
            self.assertEqual(paper_of(read_kind(kind_text), pipe), again)

    def test_told_rows_of_falling_are_the_askers_own(self):
        kind, pipe = read_kind("n:1..2"), read_pipe("walk 1 p p:1=q,p:*=p,q:1=p")
        with self.assertRaises(Falling) as caught:
            paper_of(kind, pipe)
        again = list(caught.exception.rows)
        caught.exception.rows.clear()
        with self.assertRaises(Falling) as caught:
            paper_of(kind, pipe)
        self.assertEqual(caught.exception.rows, again)


def read_few(at):
    kind, text = FEW[at]
    return read_kind(kind), read_pipe(text)


def worker_at(pipe, place):
    if len(place) > 1:
        return worker_at(pipe[place[0]][-2:][place[1]], place[2:])
    return pipe[place[0]] if place[0] < len(pipe) else ()


if __name__ == "__main__":
    unittest.main()
