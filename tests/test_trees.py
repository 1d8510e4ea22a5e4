"""Trees, and whether one holds (point 25)."""

import random
import unittest

from rowpipes.alike import compared
from rowpipes.coming import first_fall
from rowpipes.errors import NoPipe
from rowpipes.kinds import head_of, read_kind
from rowpipes.pipetexts import read_pipe
from rowpipes.running import told
from rowpipes.sets import read_set
from rowpipes.trees import follows
from samples import cases, rows_of, some_pipe, some_set
from treelook import tree_holds

LEAF = ("leaf",)
TREE_WORKERS = ("keep", "cut", "turn", "must")
N, NN, NW = "n:1..3", "n:1..3 n:1..3", "n:1..3 w:a,b"


def split(column, text, one=LEAF, other=LEAF):
    return ("split", column, read_set(text), one, other)


# Kind, two pipes, tree, whether it holds.
HOLDS = (
    # nothing is asked of the rows
    (N, "all", "all", LEAF, True),
    (NW, "cut 2", "cut 2", LEAF, True),
    (NW, "cut 1 2", "all", LEAF, True),
    (NW, "cut 2 1 | cut 2 1", "all", LEAF, True),
    # the same source column in both, in order, and as many
    (NN, "cut 1", "cut 2", LEAF, False),
    (NN, "cut 1 2", "cut 2 1", LEAF, False),
    (NN, "cut 1", "cut 1 1", LEAF, False),
    (NN, "cut 1 1", "cut 1 2", LEAF, False),
    (NN, "cut 2 2", "cut 2 1 | cut 1 1", LEAF, True),
    # the same cell; a set of one cell being that cell
    ("n:2 n:2", "cut 1", "cut 2", LEAF, True),
    ("n:2 n:3", "cut 1", "cut 2", LEAF, False),
    ("n:2 n:2..3", "cut 1", "cut 2", LEAF, False),
    ("n:2 n:2", "turn 1 2=5 | turn 2 2=5", "turn 1 2=5 | cut 1 1", LEAF, True),
    ("n:2 n:5", "turn 1 2=5", "cut 2 2", LEAF, True),
    ("n:2 n:5", "turn 1 2=4", "cut 2 2", LEAF, False),
    ("n:1..3 n:5", "cut 1 1", "cut 1 2", LEAF, False),
    ("n:1 w:a", "must 1 1=a", "cut 2 2", LEAF, True),
    ("n:1 w:b", "must 1 1=a", "cut 2 2", LEAF, False),
    # a keep has all cells that come to it
    (N, "keep 1 n:1..3", "all", LEAF, True),
    (N, "keep 1 n:..", "keep 1 n:0..", LEAF, True),
    # none: the row is left out
    (N, "keep 1 n:4", "keep 1 n:5", LEAF, True),
    (N, "keep 1 n:4", "all", LEAF, False),
    (N, "all", "keep 1 n:4", LEAF, False),
    (NW, "keep 1 n:4", "keep 2 w:c", LEAF, True),
    # some
    (N, "keep 1 n:1", "keep 1 n:1", LEAF, False),
    (N, "keep 1 n:1", "all", LEAF, False),
    (N, "keep 1 n:1", "keep 1 n:1", split(1, "n:1"), True),
    (N, "keep 1 n:1", "keep 1 n:1", split(1, "n:2..3"), True),
    (N, "keep 1 n:1", "keep 1 n:1", split(1, "n:..1"), True),
    (N, "keep 1 n:1", "keep 1 n:1", split(1, "n:1..2"), False),
    (N, "keep 1 n:1", "keep 1 n:1", split(1, "n:-"), False),
    (N, "keep 1 n:1", "keep 1 n:1", split(1, "n:1..2", split(1, "n:1")), True),
    (N, "keep 1 n:1", "keep 1 n:1", split(1, "n:1..2", LEAF, split(1, "n:1")), False),
    (N, "keep 1 n:1..2", "keep 1 n:2..3", split(1, "n:1", LEAF, split(1, "n:2")), False),
    # what stands behind a keep that leaves the row out isn't looked at
    (NW, "keep 1 n:4 | keep 2 w:a", "keep 1 n:5", LEAF, True),
    (NW, "keep 1 n:4 | turn 2 a=b | cut 2", "keep 2 w:c | must 1 4=4", LEAF, True),
    (NW, "keep 2 w:a | keep 1 n:4", "keep 1 n:5", LEAF, False),
    (NW, "keep 2 w:a | keep 1 n:4", "keep 1 n:5", split(2, "w:a"), True),
    # a leaf for which a column has no cell
    ("n:-", "all", "keep 1 n:-", LEAF, True),
    ("n:1..3 w:-", "keep 1 n:1", "cut 2", LEAF, True),
    ("n:1..3 w:-", "must 1 4=4", "turn 1 1=2", LEAF, True),
    (N, "all", "turn 1 4=5", split(1, "n:4"), True),
    (N, "all", "turn 1 1=2", split(1, "n:4"), False),
    (N, "all", "all", split(1, "n:4", split(1, "n:4", split(1, "n:5"))), True),
    # turn: just one a and nothing else
    (N, "turn 1 1=2", "turn 1 1=2", LEAF, False),
    (N, "turn 1 1=2", "turn 1 1=2", split(1, "n:1"), True),
    (N, "turn 1 1=2", "turn 1 1=3", split(1, "n:1"), False),
    (N, "turn 1 1=1", "all", LEAF, False),
    (N, "turn 1 1=1", "all", split(1, "n:1"), True),
    ("n:1", "turn 1 1=2", "must 1 1=2", LEAF, True),
    ("n:1..2", "turn 1 1=5,2=5", "turn 1 1=5,2=5", LEAF, False),
    ("n:1..2", "turn 1 1=5,2=5", "turn 1 1=5,2=5", split(1, "n:1"), True),
    ("n:1..2", "turn 1 1=5,2=5", "turn 1 2=5,1=5", split(1, "n:..1"), True),
    # no a
    (N, "turn 1 4=5", "all", LEAF, True),
    (N, "turn 1 4=5", "turn 1 7=8", LEAF, True),
    (N, "turn 1 1=5 | turn 1 1=7", "turn 1 1=5", split(1, "n:1"), True),
    (N, "turn 1 1=5 | turn 1 5=7", "turn 1 1=7", split(1, "n:1"), True),
    (N, "turn 1 1=5 | keep 1 n:5", "keep 1 n:1 | turn 1 1=5", split(1, "n:1"), True),
    (N, "turn 1 1=5 | keep 1 n:6", "keep 1 n:7", LEAF, False),
    (N, "turn 1 1=5 | keep 1 n:6", "keep 1 n:7", split(1, "n:1"), True),
    # must
    (N, "must 1 1=1,2=2,3=3", "all", LEAF, False),
    (N, "must 1 1=1,2=2,3=3", "all", split(1, "n:1", LEAF, split(1, "n:2")), True),
    (N, "must 1 1=1,2=2,3=3", "all", split(1, "n:1"), False),
    (N, "must 1 1=a,2=b,3=a", "must 1 1=a,2=b,3=a", split(1, "n:2"), False),
    (N, "must 1 1=a,2=b,3=a", "must 1 1=a,2=b,3=a", split(1, "n:2", LEAF, split(1, "n:1")), True),
    ("n:2", "must 1 2=2", "all", LEAF, True),
    # two columns of one source: the changed one has the cell, the other one is of its set
    (N, "cut 1 1 | turn 1 1=5", "cut 1 1 | turn 1 1=5", split(1, "n:1"), True),
    ("n:1", "cut 1 1 | turn 1 1=5", "turn 1 1=5 | cut 1 1", LEAF, False),
    ("n:1", "cut 1 1 | turn 1 1=5 | turn 2 1=5", "turn 1 1=5 | cut 1 1", LEAF, True),
    # words
    ("w:*", "keep 1 w:*-a", "keep 1 w:*-a", split(1, "w:a"), True),
    ("w:*", "keep 1 w:*-a", "keep 1 w:*-a", split(1, "w:a,b"), False),
    ("w:*-a", "keep 1 w:*-a", "all", LEAF, True),
    ("w:*", "turn 1 a=b,b=a", "turn 1 b=a,a=b", split(1, "w:a", LEAF, split(1, "w:b")), True),
    ("n:.. w:*", "keep 1 n:0.. | keep 2 w:a", "keep 2 w:a | keep 1 n:0..", split(1, "n:0..", split(2, "w:a"), split(2, "w:a")), True),
    ("n:.. w:*", "keep 1 n:0.. | keep 2 w:a", "keep 2 w:a | keep 1 n:0..", split(1, "n:0..", split(2, "w:a")), False),
    ("n:.. w:*", "keep 1 n:0.. | keep 2 w:a", "keep 2 w:a | keep 1 n:0..", split(2, "w:a", split(1, "n:0.."), split(1, "n:0..")), True),
    # six columns
    ("n:1 w:a n:.. w:* n:1..3 w:a,b", "keep 5 n:2 | cut 6 5", "cut 6 5 4 | keep 2 n:2 | cut 1 2", split(5, "n:2"), True),
    ("n:1 w:a n:.. w:* n:1..3 w:a,b", "keep 5 n:2 | cut 6 5", "cut 6 5 4 | keep 2 n:3 | cut 1 2", split(5, "n:2"), False),
    ("n:1 w:a n:.. w:* n:1..3 w:a,b", "cut 1 2", "cut 1 6 | turn 2 b=a", split(6, "w:a"), True),
)


def some_tree(chance, kind, deep=0):
    if deep > 3 or chance.random() < 0.35:
        return LEAF
    column = chance.randint(1, len(kind))
    return ("split", column, some_set(chance, kind[column - 1][0]), some_tree(chance, kind, deep + 1), some_tree(chance, kind, deep + 1))


def trees_changed(chance, kind, tree):
    """The tree with a split more or less somewhere."""
    if tree == LEAF:
        return some_tree(chance, kind, 3)
    if chance.random() < 0.3:
        return chance.choice((LEAF, tree[3], tree[4], tree[:3] + (tree[4], tree[3])))
    if chance.random() < 0.5:
        return tree[:3] + (trees_changed(chance, kind, tree[3]), tree[4])
    return tree[:3] + (tree[3], trees_changed(chance, kind, tree[4]))


def pairs(many, seed, most_columns=3):
    """Kinds, each with two pipes that are let by, and the chance by which they were made."""
    found = []
    for number, (kind, one) in enumerate(cases(many, most_columns, names=TREE_WORKERS, seed=seed)):
        chance = random.Random(seed * 100000 + 50000 + number)
        other = chance.choice((one, one[:-1], one[1:], some_pipe(chance, head_of(kind), TREE_WORKERS)))
        try:
            let_by = first_fall(kind, one) is None and first_fall(kind, other) is None
        except NoPipe:
            continue
        if let_by:
            found.append((kind, one, other, chance))
    return found


class Follows(unittest.TestCase):
    def test_leaves_and_splits(self):
        for kind, one, other, tree, expected in HOLDS:
            args = read_kind(kind), read_pipe(one), read_pipe(other)
            with self.subTest(kind=kind, one=one, other=other, tree=tree):
                self.assertIs(follows(*args, tree), expected)
                # Either pipe first.
                self.assertIs(follows(args[0], args[2], args[1], tree), expected)
                self.assertIs(tree_holds(*args, tree), expected)

    def test_many_pipes_and_trees(self):
        seen = {True: 0, False: 0, "deep": 0}
        for kind, one, other, chance in pairs(1500, 91) + pairs(400, 92, 6):
            tried = [some_tree(chance, kind) for tree in range(3)]
            told_of = compared(kind, one, other)
            if told_of[0] == "alike":
                tried += [told_of[1]] + [trees_changed(chance, kind, told_of[1]) for tree in range(3)]
            for tree in tried:
                expected = tree_holds(kind, one, other, tree)
                self.assertIs(follows(kind, one, other, tree), expected, (kind, one, other, tree))
                self.assertIs(follows(kind, other, one, tree), expected, (kind, one, other, tree))
                seen[expected] += 1
                seen["deep"] += expected and tree != LEAF
                if expected:
                    for row in rows_of(kind)[:60]:
                        self.assertEqual(told(one, [row]), told(other, [row]), (kind, one, other, tree))
        self.assertGreater(min(seen.values()), 400, seen)

    def test_no_tree_holds_for_parted_ones(self):
        seen = 0
        for kind, one, other, chance in pairs(1200, 93):
            found = compared(kind, one, other)
            if found[0] == "parted":
                for tree in [LEAF] + [some_tree(chance, kind) for tree in range(4)] + [compared(kind, one, one)[1], compared(kind, other, other)[1]]:
                    self.assertIs(follows(kind, one, other, tree), False, (kind, one, other, tree))
                    seen += 1
        self.assertGreater(seen, 1000)

    def test_a_tree_deeper_than_calls_may_be(self):
        tree = LEAF
        for number in range(3000):
            tree = ("split", 1, ("n", ((number, number),)), LEAF, tree)
        self.assertTrue(follows(read_kind("n:.."), read_pipe("keep 1 n:0"), read_pipe("keep 1 n:0"), tree))
        self.assertFalse(follows(read_kind("n:.."), read_pipe("keep 1 n:0"), read_pipe("keep 1 n:1"), tree))

    def test_splits_that_no_tree_has(self):
        # Of a column that the kind hasn't, or by a set of another sort, nothing is shown.
        for tree in (split(2, "n:1"), split(0, "n:1"), split(1, "w:a"), split(1, "n:1", split(3, "n:1"))):
            self.assertIs(follows(read_kind("n:1..3"), read_pipe("all"), read_pipe("all"), tree), False)

    def test_what_is_handed_in_stays(self):
        for kind_text, one_text, other_text, tree, expected in HOLDS:
            kind, one, other = read_kind(kind_text), read_pipe(one_text), read_pipe(other_text)
            before = repr(tree)
            follows(kind, one, other, tree)
            self.assertEqual((kind, one, other), (read_kind(kind_text), read_pipe(one_text), read_pipe(other_text)))
            self.assertEqual(repr(tree), before)
            self.assertIs(follows(kind, one, other, tree), expected)


if __name__ == "__main__":
    unittest.main()
