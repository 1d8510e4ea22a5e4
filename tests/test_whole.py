"""The whole program, by rows of text alone (point 4)."""

import random
import unittest

from rowpipes.cells import read_rows, show_rows
from rowpipes.desk import Desk
from rowpipes.errors import Falling, Falls, NoPipe
from rowpipes.kinds import show_kind
from rowpipes.pipetexts import show_pipe
from samples import NAMES, ONE_ROW, cases, lists_of, some_pipe
from test_trees import TREE_WORKERS

ALL_OF = {"n": "n:..", "t": "n:..", "w": "w:*"}


def desk_with(kind, **pipes):
    desk = Desk()
    assert desk.say(f"kind {kind}") == "ok"
    for name, text in pipes.items():
        assert desk.say(f"pipe {name} {text}") == "ok"
    return desk


def joined(*parts):
    """The text of pipes one behind another."""
    return " | ".join(part for part in parts if part != "all") or "all"


def texts(many, seed, names=NAMES):
    """Texts of a kind, a pipe, and some lists of rows of the kind."""
    for kind, pipe in cases(many, 3, names=names, seed=seed):
        yield show_kind(kind), show_pipe(pipe), [show_rows(rows) for rows in lists_of(kind, 60)[-15:]], kind


def every_case(many, seed):
    for names in (NAMES, ONE_ROW + ("both", "sort", "apart", "first"), ONE_ROW + ("meet", "both", "walk", "count"), TREE_WORKERS):
        seed += 1
        yield from texts(many, seed, names)


class Whole(unittest.TestCase):
    def test_where_nothing_falls_no_rows_do_else_those_told(self):
        seen = {"none": 0, "falls": 0}
        for kind, pipe, lists, sets in every_case(400, 200):
            desk = desk_with(kind, a=pipe)
            answer = desk.say("fall a")
            if answer == "none":
                for rows in lists:
                    self.assertIsNotNone(read_rows(desk.say(f"run a {rows}")))
                seen["none"] += 1
                continue
            place, rows = answer.split(": ")
            with self.assertRaises(Falls) as caught:
                desk.say(f"run a {rows}")
            self.assertEqual(" ".join(map(str, caught.exception.place)), place, (kind, pipe))
            self.assertLessEqual(len(read_rows(rows)), 20)
            seen["falls"] += 1
        self.assertGreater(min(seen.values()), 100, seen)

    def test_the_shorter_pipe(self):
        seen = {"alike": 0, "steps": 0, "open": 0, "shorter": 0}
        for kind, pipe, lists, sets in every_case(400, 210):
            desk = desk_with(kind, a=pipe)
            if desk.say("fall a") != "none":
                continue
            short = desk.say("short a")
            self.assertEqual(desk.say(f"pipe b {short}"), "ok", (kind, pipe))
            for rows in lists:
                self.assertEqual(desk.say(f"run b {rows}"), desk.say(f"run a {rows}"), (kind, pipe, short, rows))
            counts = [[int(word) for word in desk.say(f"count {name}").split(" ")] for name in "ab"]
            self.assertTrue(counts[1][0] <= counts[0][0] and counts[1][1] <= counts[0][1], (kind, pipe, short))
            self.assertEqual(desk.say("short b"), short)
            self.assertEqual(desk.say("fall b"), "none")
            like = desk.say("like a b")
            # Two pipes of keep, cut, turn, must are never left open; others are told by steps, this being the shorter one.
            self.assertIn(like, ("alike", "steps"), (kind, pipe, short))
            seen[like] += 1
            seen["shorter"] += short != pipe
        self.assertGreater(min(seen["alike"], seen["steps"], seen["shorter"]), 100, seen)

    def test_two_pipes_told_alike_or_by_steps_tell_the_same(self):
        seen = {"alike": 0, "steps": 0, "open": 0, "parted": 0}
        for number, (kind, pipe, lists, sets) in enumerate(every_case(500, 220)):
            chance = random.Random(number)
            head = tuple(told_set[0] for told_set in sets)
            names = TREE_WORKERS if chance.random() < 0.5 else ONE_ROW + ("sort", "apart", "first")
            other = chance.choice((
                pipe, joined(pipe, "apart"), joined("sort 1", pipe), joined(f"keep 1 {show_kind(sets[:1])}", pipe),
                show_pipe(some_pipe(chance, head, names))))
            try:
                desk = desk_with(kind, a=pipe, b=other)
                answer = desk.say("like a b")
            except (NoPipe, Falling):
                # A walk behind a sort can't be put together.
                continue
            sort, space, row = answer.partition(" ")
            seen[sort] += 1
            if sort in ("alike", "steps"):
                for rows in lists:
                    self.assertEqual(desk.say(f"run a {rows}"), desk.say(f"run b {rows}"), (kind, pipe, other, rows))
            if sort == "parted":
                self.assertNotEqual(desk.say(f"run a {row}"), desk.say(f"run b {row}"), (kind, pipe, other, row))
        self.assertGreater(min(seen.values()), 50, seen)

    def test_the_pipe_cut_in_two(self):
        seen = 0
        for kind, pipe, lists, sets in every_case(250, 230):
            parts = workers_of(pipe)
            whole = desk_with(kind, a=pipe)
            if whole.say("fall a") != "none":
                continue
            for at in range(len(parts) + 1):
                first = desk_with(kind, a=joined(*parts[:at]))
                head = first.say("head a").split(" ")
                try:
                    second = desk_with(" ".join(ALL_OF[sort] for sort in head), a=joined(*parts[at:]))
                except NoPipe:
                    # A desk takes tallies for numbers, and branches may tell tallies beside them.
                    self.assertTrue("t" in head and "both" in pipe, (kind, pipe, at))
                    continue
                for rows in lists[-6:]:
                    self.assertEqual(second.say(f"run a {first.say(f'run a {rows}')}"), whole.say(f"run a {rows}"), (kind, pipe, at, rows))
                    seen += 1
        self.assertGreater(seen, 2000)

    def test_branches_in_another_order(self):
        seen = 0
        for kind, pipe, lists, sets in every_case(250, 240):
            try:
                desk = desk_with(kind, a=f"both ({pipe}) (all)", b=f"both (all) ({pipe})")
            except NoPipe:
                continue
            if desk.say("fall a") != "none":
                self.assertNotEqual(desk.say("fall b"), "none")
                continue
            for rows in lists:
                one, other = read_rows(desk.say(f"run a {rows}")), read_rows(desk.say(f"run b {rows}"))
                self.assertEqual(sorted(one), sorted(other), (kind, pipe, rows))
                seen += 1
        self.assertGreater(seen, 1000)


def workers_of(text):
    """The texts of the workers of a pipe, those in brackets left as they are."""
    found, deep = [""], 0
    for word in text.split(" "):
        if word == "|" and deep == 0:
            found.append("")
            continue
        deep += word.count("(") - word.count(")")
        found[-1] += (" " if found[-1] else "") + word
    return [] if text == "all" else found


if __name__ == "__main__":
    unittest.main()
