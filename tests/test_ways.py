"""Ways, which lie within others, where a worker leads them (points 15 and 16)."""

import itertools
import unittest

from rowpipes.kinds import read_kind
from rowpipes.pipetexts import read_pipe
from rowpipes.running import told
from rowpipes.sets import has, read_set
from rowpipes.ways import (
    choice_for, led, lies_within, met, moved, not_taken, not_taken_in, rows_by, some_rows, walked, ways_of)

ANY = ("any",)
CELLS = (0, 1, 2, 3, "a", "b", "c")


def of(at):
    return ("of", at)


def just(cell):
    return ("is", cell)


def way(texts, *columns):
    """A way of the sets that these texts write, without rows."""
    return (tuple(read_set(text) for text in texts.split()), columns, ())


def rows_in(found, cells=CELLS):
    """The rows of a way with these cells, a tally shown as None."""
    sets, columns, rows = found
    choices = itertools.product(*[[cell for cell in cells if has(told_set, cell)] for told_set in sets])
    return {
        tuple(None if entry == ANY else choice[entry[1]] if entry[0] == "of" else entry[1] for entry in columns)
        for choice in choices}


# Worker, way, the ways to which it leads.
LED = (
    ("keep 1 n:2..", way("n:1..3", of(0)), [way("n:2..3", of(0))]),
    ("keep 1 n:2..", way("n:1..3", of(0), of(0)), [way("n:2..3", of(0), of(0))]),
    ("keep 2 n:2..", way("n:1..3 n:5", of(0), of(1)), [way("n:1..3 n:5", of(0), of(1))]),
    ("keep 1 n:4..", way("n:1..3", of(0)), []),
    ("keep 1 n:2..", way("", just(2)), [way("", just(2))]),
    ("keep 1 n:2..", way("", just(1)), []),
    ("keep 1 n:2..", way("", ANY), [way("", ANY)]),
    ("keep 1 n:-", way("", ANY), [way("", ANY)]),
    ("keep 1 w:*-a", way("w:*-b", of(0)), [way("w:*-a,b", of(0))]),
    ("same 1 2", way("n:1..3 n:2..5", of(0), of(1)), [way("n:2..3 n:2..5", of(0), of(0))]),
    ("same 2 1", way("n:1..3 n:2..5", of(0), of(1)), [way("n:1..3 n:2..3", of(1), of(1))]),
    ("same 1 2", way("n:1..3 n:2..5", of(0), of(1), of(1)), [way("n:2..3 n:2..5", of(0), of(0), of(0))]),
    ("same 1 2", way("n:1..3 n:5", of(0), of(1)), []),
    ("same 1 2", way("n:1..3", of(0), of(0)), [way("n:1..3", of(0), of(0))]),
    ("same 1 2", way("n:1..3", of(0), just(2)), [way("n:2", of(0), just(2))]),
    ("same 2 1", way("n:1..3", of(0), just(2)), [way("n:2", of(0), just(2))]),
    ("same 1 2", way("n:1..3", of(0), just(4)), []),
    ("same 1 2", way("", just(4), just(4)), [way("", just(4), just(4))]),
    ("same 1 2", way("", just(4), just(5)), []),
    ("cut 2 1 2", way("n:1..3", of(0), just(4)), [way("n:1..3", just(4), of(0), just(4))]),
    ("turn 1 1=2", way("", just(1)), [way("", just(2))]),
    ("turn 1 1=2", way("", just(3)), [way("", just(3))]),
    ("turn 1 1=2,2=1", way("n:1..3", of(0)), [way("n:1", just(2)), way("n:2", just(1)), way("n:3", of(0))]),
    ("turn 1 1=2,7=1", way("n:1..3", of(0), of(0)), [way("n:1", just(2), of(0)), way("n:2..3", of(0), of(0))]),
    ("turn 1 1=1", way("n:1", of(0)), [way("n:1", just(1))]),
    ("turn 1 5=1", way("n:1", of(0)), [way("n:1", of(0))]),
    ("must 1 1=a,3=b", way("n:1,3", of(0)), [way("n:1", just("a")), way("n:3", just("b"))]),
    ("must 1 1=a", way("", just(1)), [way("", just("a"))]),
    ("sort 1", way("n:1..3", of(0)), [way("n:1..3", of(0))]),
    ("apart", way("n:1..3", of(0)), [way("n:1..3", of(0))]),
    ("count", way("n:1..3", of(0)), [way("n:1..3", ANY)]),
    ("count 2 1", way("n:1..3", of(0), just(5)), [way("n:1..3", just(5), of(0), ANY)]),
    ("sum 2 of 1", way("n:1..3", of(0), just(5)), [way("n:1..3", just(5), ANY)]),
    ("number", way("n:1..3", of(0)), [way("n:1..3", of(0), ANY)]),
    ("first 0", way("n:1..3", of(0)), []),
    ("first 1", way("n:1..3", of(0)), [way("n:1..3", of(0))]),
    ("first 60", way("n:1..3", of(0)), [way("n:1..3", of(0))]),
)

# A way, another one, whether the one lies within the other.
WITHIN = (
    (way("n:1..3", of(0)), way("n:1..3", of(0)), True),
    (way("n:1..3", of(0)), way("n:1..4", of(0)), True),
    (way("n:1..3", of(0)), way("n:1..2", of(0)), False),
    (way("n:1..3", of(0)), way("n:..", of(0), of(0)), False),
    (way("n:1..3", of(0), of(0)), way("n:..", of(0)), False),
    (way("n:1..3", of(0)), way("", ANY), True),
    (way("", ANY), way("", ANY), True),
    (way("", ANY), way("n:..", of(0)), False),
    (way("", ANY), way("", just(1)), False),
    (way("", just(1)), way("", ANY), True),
    (way("", just(1)), way("", just(1)), True),
    (way("", just(1)), way("", just(2)), False),
    (way("n:1", of(0)), way("", just(1)), True),
    (way("n:1", of(0)), way("", just(2)), False),
    (way("n:1..2", of(0)), way("", just(1)), False),
    (way("w:a", of(0)), way("", just("a")), True),
    (way("w:*-a", of(0)), way("", just("b")), False),
    (way("", just(1)), way("n:1..2", of(0)), True),
    (way("", just(3)), way("n:1..2", of(0)), False),
    # two columns of one set
    (way("n:1..2", of(0), of(0)), way("n:..", of(0), of(0)), True),
    (way("n:1..2 n:1..2", of(0), of(1)), way("n:..", of(0), of(0)), False),
    (way("n:1..2", of(0), of(0)), way("n:.. n:..", of(0), of(1)), True),
    (way("n:1..2 n:1..2", of(0), of(1)), way("n:.. n:..", of(1), of(0)), True),
    (way("n:1 n:1", of(0), of(1)), way("n:..", of(0), of(0)), True),
    (way("n:1 n:2", of(0), of(1)), way("n:..", of(0), of(0)), False),
    (way("n:1", of(0), just(1)), way("n:..", of(0), of(0)), True),
    (way("n:1", just(1), of(0)), way("n:..", of(0), of(0)), True),
    (way("n:1", just(2), of(0)), way("n:..", of(0), of(0)), False),
    (way("n:1..2", just(2), of(0)), way("n:..", of(0), of(0)), False),
    (way("", just(2), just(2)), way("n:..", of(0), of(0)), True),
    (way("", just(2), just(3)), way("n:..", of(0), of(0)), False),
    (way("n:1..2", of(0), of(0), of(0)), way("n:..", of(0), of(0), of(0)), True),
    (way("n:1..2 n:1..2", of(0), of(0), of(1)), way("n:..", of(0), of(0), of(0)), False),
    (way("n:1..2 n:1..2", of(0), of(1), of(0)), way("n:.. n:..", of(0), of(1), of(0)), True),
    (way("n:1..2 n:1..2", of(0), of(1), of(0)), way("n:.. n:..", of(0), of(0), of(1)), False),
    # sets of which no column is
    (way("n:1..9 n:1..2", of(1)), way("n:1..2 n:5", of(0)), True),
    (way("n:1..9 n:5", of(1)), way("n:1..2 n:5", of(1)), True),
)


class Ways(unittest.TestCase):
    def test_the_way_of_a_kind(self):
        kind = read_kind("n:1..3 w:a,b n:..")
        columns = (of(0), of(1), of(2))
        self.assertEqual(ways_of(kind), [(tuple(kind), columns, (columns,))])
        self.assertEqual(kind, read_kind("n:1..3 w:a,b n:.."))
        for text in ("n:-", "w:-", "n:1 w:-", "n:- n:..", "n:1 n:2 w:a w:b n:3 n:-"):
            self.assertEqual(ways_of(read_kind(text)), [], text)

    def test_ways_led(self):
        for text, one, wanted in LED:
            worker, = read_pipe(text)
            found = led(worker, one)
            with self.subTest(worker=text, way=one):
                self.assertEqual([found_way[1] for found_way in found], [wanted_way[1] for wanted_way in wanted])
                self.assertEqual([rows_in(found_way) for found_way in found], [rows_in(told_way) for told_way in wanted])

    def test_ways_have_the_rows_that_workers_tell(self):
        one_row = ("keep", "same", "cut", "turn", "must")
        for text, one, wanted in LED:
            worker, = read_pipe(text)
            if worker[0] in one_row and ANY not in one[1]:
                rows = set(told((worker,), sorted(rows_in(one))))
                self.assertEqual(rows, {row for found in led(worker, one) for row in rows_in(found)}, text)

    def test_walks(self):
        worker, = read_pipe("walk 1 p p:1=q,p:*=p,q:2=p,z:*=q")
        one = way("n:1..3", of(0))
        states = {"p": (), "q": ()}
        self.assertEqual(walked(worker, states, one), [
            way("n:1", of(0), just("q")), way("n:2..3", of(0), just("p")), way("n:2", of(0), just("p"))])
        self.assertEqual(walked(worker, {"z": ()}, one), [way("n:1..3", of(0), just("q"))])
        self.assertEqual(walked(worker, states, way("", just(1))), [way("", just(1), just("q"))])
        self.assertEqual(walked(worker, states, way("", just(2))), [
            way("", just(2), just("p")), way("", just(2), just("p"))])
        self.assertEqual(walked(worker, {"b": ()}, one), [])
        self.assertEqual(moved(worker, "p", way("n:5", of(0))), [("p", way("n:5", of(0)))])
        self.assertEqual(moved(worker, "q", way("n:5", of(0))), [])

    def test_walks_put_the_rows_that_lead_to_a_state_ahead(self):
        worker, = read_pipe("walk 1 p p:*=q,q:*=q")
        one, = ways_of(read_kind("n:1..3"))
        ahead = ((just(7),),)
        self.assertEqual(
            [found[2] for found in walked(worker, {"p": (), "q": ahead}, one)], [((of(0),),), ahead + ((of(0),),)])

    def test_meets(self):
        worker, = read_pipe("meet 2 1 (all) (all)")
        one, other = way("n:1..2 n:3..5", of(0), of(1)), way("n:4..9 n:6", of(0), of(1), just("a"))
        found, = met(worker, one, other)
        self.assertEqual(rows_in(found, range(10)), {(cell, also, 6, "a") for cell in (1, 2) for also in (4, 5)})
        self.assertEqual(met(worker, one, way("n:7", of(0))), [])
        found, = met(worker, way("", ANY, just(4)), other)
        self.assertEqual(rows_in(found, range(10)), {(None, 4, 6, "a")})
        self.assertEqual(len(found[1]), 4)
        worker, = read_pipe("meet 1 2 (all) (all)")
        found, = met(worker, way("n:4", of(0)), way("n:1..9", of(0), of(0)))
        self.assertEqual(rows_in(found, range(10)), {(4, 4)})

    def test_meets_take_the_rows_of_both(self):
        worker, = read_pipe("meet 1 2 (all) (all)")
        one, = ways_of(read_kind("n:1..3 n:4..6"))
        found, = met(worker, one, ways_of(read_kind("n:7..9 n:2..8"))[0])
        rows = some_rows(found)
        self.assertEqual(len(rows), 2)
        self.assertEqual(rows[0][0], rows[1][1])
        self.assertIn(rows[0][0], (2, 3))

    def test_cells_that_a_worker_cannot_take(self):
        must, = read_pipe("must 1 1=a,2=a")
        self.assertEqual(not_taken(must, way("n:1..2", of(0))), [])
        self.assertEqual(not_taken(must, way("n:0..2", of(0))), [way("n:0", of(0))])
        self.assertEqual(not_taken(must, way("", just(2))), [])
        self.assertEqual(not_taken(must, way("", just(3))), [way("", just(3))])
        walk, = read_pipe("walk 1 p p:1=q,p:2=q,q:1=p,q:*=p")
        self.assertEqual(not_taken_in(walk, "p", way("n:1..2", of(0))), [])
        self.assertEqual(not_taken_in(walk, "p", way("n:1..5", of(0))), [way("n:3..5", of(0))])
        self.assertEqual(not_taken_in(walk, "p", way("", just(3))), [way("", just(3))])
        self.assertEqual(not_taken_in(walk, "q", way("n:1..5", of(0))), [])
        self.assertEqual(not_taken_in(walk, "z", way("n:1", of(0))), [way("n:1", of(0))])

    def test_choices(self):
        one = (way("n:1..3 w:a,b", of(0), of(1), of(0), just(5))[:2] + (((of(1), of(0)), (just(9), of(0))),))
        self.assertEqual(rows_by(one, choice_for(one, (2, "b", 2, 5))), [("b", 2), (9, 2)])
        for row in ((2, "b", 3, 5), (4, "b", 4, 5), (2, "c", 2, 5), (2, "b", 2, 6), (2, "b", 2), (2, "b", 2, 5, 5),
                    ("b", 2, 2, 5), (2, "b", 2, "b"), (2, 2, 2, 5), (), ("a", "a", "a", "a")):
            self.assertIsNone(choice_for(one, row), row)

    def test_ways_within_others(self):
        for one, other, wanted in WITHIN:
            self.assertIs(lies_within(one, other), wanted, (one, other))

    def test_no_way_lies_within_one_that_lacks_a_row(self):
        entries = [of(0), of(1), just(1), just(2)]
        texts = ("n:1 n:1", "n:1..2 n:1..2", "n:1 n:2", "n:1..3 n:2")
        ways = [way(text, *columns) for text in texts for columns in itertools.product(entries, repeat=2)]
        for one, other in itertools.product(ways, repeat=2):
            if lies_within(one, other):
                self.assertLessEqual(rows_in(one), rows_in(other), (one, other))
            else:
                self.assertFalse(rows_in(one) <= rows_in(other), (one, other))


if __name__ == "__main__":
    unittest.main()
