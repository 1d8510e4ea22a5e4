"""Whether a paper holds (points 15 to 17)."""

import copy
import unittest

from paperlook import paper_holds
from rowpipes.coming import first_fall
from rowpipes.errors import NoPipe, TooMany
from rowpipes.holding import holds
from rowpipes.kinds import read_kind
from rowpipes.papers import paper_of
from rowpipes.pipetexts import read_pipe
from rowpipes.places import places
from rowpipes.sets import another, either, is_none, just, read_set, rest_of, without
from samples import ONE_ROW, cases
from test_coming import BROUGHT, FALLS, FEW, REFUSED, times

ANY = ("any",)
ALL_OF = {"n": read_set("n:.."), "w": read_set("w:*")}

# Kinds and pipes that are let by, with each sort of worker, in branches too.
LET_BY = (
    ("n:1..3", "all"),
    ("n:1..3 w:a,b", "keep 1 n:2.. | cut 2 1 | turn 1 a=b | must 1 b=c"),
    ("n:1..3 n:2..5", "same 1 2 | cut 1 2 1 | keep 3 n:2 | must 1 2=9"),
    ("n:1..3", "cut 1 1 | turn 2 3=7 | must 1 1=a,2=b,3=a"),
    ("n:1..3", "walk 1 p p:1=q,p:*=p,q:2=r,q:*=q,r:*=r | must 2 p=p,q=q,r=r"),
    ("w:a,b", "walk 1 p p:a=q,p:b=p,q:*=p | keep 2 w:q | must 1 a=a"),
    ("n:1..3", "sort 1- | apart | number | count 1 | sum 1 of 2 | first 3"),
    ("n:1..3", "first 0 | must 1 9=9"),
    ("n:1..2", "both (keep 1 n:1) (both (turn 1 1=2) (must 1 1=3,2=4 | number | cut 1)) | must 1 1=1,2=2,3=3,4=4"),
    ("n:1..2 w:a,b", "meet 1 1 (keep 2 w:a) (must 2 a=c,b=d) | must 2 a=a | number"),
    ("n:1..2", "both (walk 1 p p:1=q,p:2=p,q:*=p) (both (walk 1 r r:*=r) (walk 1 s s:*=p,p:*=p)) | must 2 p=p,q=q,r=r"),
    ("n:1..2", "number | meet 1 1 (cut 2 1 | cut 2) (all) | keep 2 n:4"),
    ("n:-", "walk 1 p -"),
    ("n:1 w:-", "both (walk 2 p p:a=p) (must 2 z=z | walk 1 q -) | number"),
)


def let_by():
    texts = LET_BY + tuple(case[:2] for case in FALLS if case[2] is None) + tuple(case[:2] for case in BROUGHT) + FEW
    return [(read_kind(kind), read_pipe(pipe)) for kind, pipe in texts]


def at_place(paper, at, ways=None, states=None):
    """The paper with other ways, or other states, at one place."""
    place, old_ways, old_states = paper[at]
    entry = (place, old_ways if ways is None else ways, old_states if states is None else states)
    return paper[:at] + [entry] + paper[at + 1:]


def sets_changed(told):
    """Greater ones, less ones, and all of its sort."""
    inner, outer = another(told, None), another(rest_of(told), None)
    found = [without(told, [inner]), just(inner), ALL_OF[told[0]]]
    if outer is not None:
        found += [either(told, just(outer)), without(either(told, just(outer)), [inner])]
    return [new for new in found if new != told and not is_none(new)]


def columns_changed(way):
    """The way with a cell for a set, a set for a cell, another cell, two columns no longer of one set."""
    sets, columns = way
    for at, entry in enumerate(columns):
        if entry[0] == "of":
            told = sets[entry[1]]
            yield (sets, columns[:at] + (("is", another(told, None)),) + columns[at + 1:])
            yield (sets + (told,), columns[:at] + (("of", len(sets)),) + columns[at + 1:])
            if entry in columns[:at]:
                yield (sets + (just(another(told, None)),), columns[:at] + (("of", len(sets)),) + columns[at + 1:])
        if entry[0] == "is":
            yield (sets + (just(entry[1]),), columns[:at] + (("of", len(sets)),) + columns[at + 1:])
            yield (sets, columns[:at] + (("is", "z" if isinstance(entry[1], str) else 77),) + columns[at + 1:])
            for other, second in enumerate(columns[:at]):
                if second == entry:
                    yield (sets + (just(entry[1]),), tuple(
                        ("of", len(sets)) if place in (at, other) else old for place, old in enumerate(columns)))


def ways_changed(way):
    sets, columns = way
    for at, told in enumerate(sets):
        for new in sets_changed(told):
            yield (sets[:at] + (new,) + sets[at + 1:], columns)
    yield from columns_changed(way)
    yield (sets + (read_set("w:unused"),), columns)
    yield ((read_set("n:..4"),) + sets, tuple(("of", entry[1] + 1) if entry[0] == "of" else entry for entry in columns))
    if len(sets) == 2:
        yield (sets[::-1], tuple(("of", 1 - entry[1]) if entry[0] == "of" else entry for entry in columns))


def lists_changed(ways):
    """A way less, a way twice, a way more, the ways in another order, none."""
    yield []
    yield ways[::-1]
    for at, way in enumerate(ways[:6]):
        yield ways[:at] + ways[at + 1:]
        yield ways + [way]
        for new in ways_changed(way):
            yield ways[:at] + [new] + ways[at + 1:]
            yield ways + [new]


def states_changed(states):
    for at in range(len(states)):
        yield states[:at] + states[at + 1:]
    for more in ("p", "q", "r", "s", "zzzzzzzz"):
        if more not in states:
            yield tuple(sorted(states + (more,)))


def papers_changed(paper, has_walk):
    for at, (place, ways, states) in enumerate(paper):
        for new in lists_changed(ways):
            yield at_place(paper, at, ways=new)
        if place in has_walk:
            for new in states_changed(states):
                yield at_place(paper, at, states=new)
    for at, (place, ways, states) in enumerate(paper[:-1]):
        # The same change at two places may hold where at one it doesn't.
        for way in ways[:2]:
            for new in ways_changed(way):
                behind = paper[at + 1][1]
                yield at_place(at_place(paper, at, ways=ways + [new]), at + 1, ways=behind + [new])


def walks_of(pipe):
    return [place for place in places(pipe) if worker_at(pipe, place)[:1] == ("walk",)]


def worker_at(pipe, place):
    if len(place) > 1:
        return worker_at(pipe[place[0]][-2:][place[1]], place[2:])
    return pipe[place[0]] if place[0] < len(pipe) else ()


class Told(unittest.TestCase):
    def test_each_told_paper_holds(self):
        for kind, pipe in let_by():
            self.assertIs(holds(kind, pipe, paper_of(kind, pipe)), True, (kind, pipe))

    def test_each_told_paper_of_many_pipes_holds(self):
        seen = 0
        for names, seed in ((ONE_ROW + ("walk", "both"), 41), (ONE_ROW + ("meet", "both", "count"), 42), (None, 43)):
            for kind, pipe in cases(400, 3, names=names, seed=seed) if names else cases(800, 3, seed=seed):
                if first_fall(kind, pipe) is None:
                    self.assertIs(holds(kind, pipe, paper_of(kind, pipe)), True, (kind, pipe))
                    seen += 1
        self.assertGreater(seen, 700)

    def test_a_paper_holds_where_the_ways_led_would_be_too_many(self):
        way = ((read_set("n:1"),), (("of", 0),))
        for text in (times("both (all) (all)", 8), times("meet 1 1 (all) (all)", 5)):
            pipe = read_pipe(text)
            with self.assertRaises(TooMany):
                paper_of(read_kind("n:1"), pipe)
            self.assertTrue(holds(read_kind("n:1"), pipe, [(place, [way], ()) for place in places(pipe)]))

    def test_more_ways_than_are_led_may_stand_in_a_paper(self):
        pipe = read_pipe("turn 1 1=2 | must 1 2=3,5=5")
        ways = [((read_set("n:2,5"),), (("of", 0),))] * 201
        ahead = [((read_set("n:1..2,5"),), (("of", 0),))] * 201
        behind = [((read_set("n:3..9"),), (("of", 0),))] * 201
        paper = [((0,), ahead, ()), ((1,), ways, ()), ((2,), behind, ())]
        self.assertTrue(holds(read_kind("n:1..2"), pipe, paper))
        self.assertTrue(holds(read_kind("n:5"), pipe, paper))
        self.assertFalse(holds(read_kind("n:5..6"), pipe, paper))


class Changed(unittest.TestCase):
    def test_told_papers_changed_at_each_place(self):
        seen = {True: 0, False: 0}
        for kind, pipe in let_by():
            paper = paper_of(kind, pipe)
            if max(len(ways) for place, ways, states in paper) > 12 or len(paper) > 14:
                continue
            for new in papers_changed(paper, walks_of(pipe)):
                expected = paper_holds(kind, pipe, new)
                self.assertIs(holds(kind, pipe, new), expected, (kind, pipe, new))
                seen[expected] += 1
        self.assertGreater(min(seen.values()), 2000, seen)

    def test_told_papers_of_many_pipes_changed(self):
        seen = {True: 0, False: 0}
        for kind, pipe in cases(150, 3, seed=44):
            if first_fall(kind, pipe) is not None:
                continue
            paper = paper_of(kind, pipe)
            if max(len(ways) for place, ways, states in paper) > 12:
                continue
            for new in list(papers_changed(paper, walks_of(pipe)))[::5]:
                expected = paper_holds(kind, pipe, new)
                self.assertIs(holds(kind, pipe, new), expected, (kind, pipe, new))
                seen[expected] += 1
        self.assertGreater(min(seen.values()), 500, seen)

    def test_states_in_another_order_or_form(self):
        for kind, pipe in let_by():
            paper = paper_of(kind, pipe)
            walks = walks_of(pipe)
            for at, (place, ways, states) in enumerate(paper):
                wrong = [list(states), None, "", {state: True for state in states}, states + (None,), ("p", "p")]
                if place in walks:
                    wrong += [states + states, states + states[-1:], states + ("A",), states + (1,), states + ("",), states[0]]
                    wrong += [states[::-1]] if len(states) > 1 else []
                else:
                    wrong += [("p",), ((),)]
                for new in wrong:
                    changed = paper[:at] + [(place, ways, new)] + paper[at + 1:]
                    self.assertIs(holds(kind, pipe, changed), False, (pipe, place, new))


def paper_with(*told):
    """A paper of one branch: ways as lists of pairs (sets' texts, columns), and states if any."""
    found = []
    for at, (ways, *states) in enumerate(told):
        read = [(tuple(read_set(text) for text in sets), columns) for sets, columns in ways]
        found.append(((at,), read, tuple(states)))
    return found


OF, OFS = (("of", 0),), (("of", 0), ("of", 1))


class WordByWord(unittest.TestCase):
    def check(self, kind, pipe, cases_told):
        for expected, *told in cases_told:
            paper = paper_with(*told)
            self.assertIs(holds(read_kind(kind), read_pipe(pipe), paper), expected, (kind, pipe, paper))
            self.assertIs(paper_holds(read_kind(kind), read_pipe(pipe), paper), expected, (kind, pipe, paper))

    def test_the_way_of_the_kind(self):
        self.check("n:1..3", "all", (
            (True, ([(("n:1..3",), OF)],)), (True, ([(("n:..",), OF)],)), (True, ([(("n:2",), OF), (("n:1..4",), OF)],)),
            # it lies within one of them, not within several together
            (False, ([(("n:1..2",), OF), (("n:3",), OF)],)), (False, ([(("n:2..",), OF)],)), (False, ([],)),
            (False, ([((), (("is", 2),))],)), (True, ([(("w:*", "n:0..4", "w:a"), (("of", 1),))],))))
        self.check("n:2", "all", ((True, ([((), (("is", 2),))],)), (False, ([((), (("is", 3),))],))))
        self.check("w:b", "all", ((True, ([((), (("is", "b"),))],)), (True, ([(("w:*-a",), OF)],)), (False, ([(("w:*-b",), OF)],))))
        for kind in ("n:-", "n:- n:1", "n:1 n:-"):
            head = len(kind.split())
            self.check(kind, "all", ((True, ([],)), (True, ([(("n:7", "n:8"), OFS[:head])],))))

    def test_columns_of_one_set(self):
        for kind, one, expected in (
                ("n:1..3 n:1..3", OFS, True), ("n:1..3 n:1..3", (("of", 0), ("of", 0)), False),
                ("n:2 n:2", (("of", 0), ("of", 0)), True), ("n:2 n:2", (("is", 2), ("of", 1)), True),
                ("n:2 n:2", (("is", 2), ("is", 2)), True), ("n:2 n:3", (("of", 0), ("of", 0)), False)):
            self.check(kind, "all", ((expected, ([(("n:..", "n:.."), one)],)),))
        cut = [(("n:1..3",), (("of", 0), ("of", 0)))]
        for behind, expected in (
                (cut, True), ([(("n:1..3", "n:1..3"), OFS)], True), ([(("n:1..3", "n:1..2"), OFS)], False),
                ([(("n:1..2",), (("of", 0), ("of", 0)))], False)):
            self.check("n:1..3", "cut 1 1", ((expected, ([(("n:1..3",), OF)],), (behind,)),))
        # three of one set, one of them parted
        ahead = ([(("n:1..3",), OF)],)
        for columns, expected in (
                ((0, 0, 0), True), ((0, 1, 0), True), ((0, 0, 1), True), ((1, 0, 0), True), ((0, 1, 2), True)):
            behind = ([(("n:1..3", "n:1..3", "n:1..3"), tuple(("of", at) for at in columns))],)
            self.check("n:1..3", "cut 1 1 1", ((expected, ahead, behind),))
        parted = ([(("n:1..3", "n:1..3"), (("of", 0), ("of", 1), ("of", 0)))],)
        whole = ([(("n:1..3",), (("of", 0), ("of", 0), ("of", 0)))],)
        self.check("n:1..3", "cut 1 1 1 | apart", ((False, ahead, parted, whole), (True, ahead, whole, parted)))

    def test_must(self):
        for ways, expected in (
                ([(("n:1..2",), OF)], True), ([(("n:1..2",), OF), (("n:2",), OF)], True),
                ([(("n:1..2",), OF), (("n:3",), OF)], False), ([(("n:1..3",), OF)], False),
                ([(("n:1..2",), OF), ((), (("is", 1),))], True), ([(("n:1..2",), OF), ((), (("is", 3),))], False)):
            behind = [((), (("is", "a"),)), ((), (("is", "b"),))]
            self.check("n:1..2", "must 1 1=a,2=b", ((expected, (ways,), (behind,)),))
            self.check("n:1..2", "must 1 1=a,2=b", ((expected, (ways,), ([(("w:a,b",), OF)],)),))
            self.check("n:1..2", "must 1 1=a,2=b", ((False, (ways,), (behind[1:],)),))

    def test_turn(self):
        ahead = ([(("n:1..2,5",), OF)],)
        for behind, expected in (
                ([((), (("is", 3),)), (("n:2,5",), OF)], True), ([((), (("is", 3),)), (("n:5",), OF)], False),
                ([(("n:2,5",), OF)], False), ([(("n:2..5",), OF)], True), ([((), (("is", 3),)), ((), (("is", 5),))], False)):
            self.check("n:1..2,5", "turn 1 1=3", ((expected, ahead, (behind,)),))
        one = ([((), (("is", 1),))],)
        self.check("n:1", "turn 1 1=3,4=5", ((True, one, ([((), (("is", 3),))],)), (False, one, ([((), (("is", 1),))],))))
        self.check("n:1", "turn 1 2=3,4=5", ((True, one, ([((), (("is", 1),))],)), (False, one, ([((), (("is", 3),))],))))

    def test_walk(self):
        pipe = "walk 1 p p:1=q,p:*=p,q:2=r"
        ahead, two = [(("n:1",), OF)], [(("n:1..2",), OF)]
        behind = [(("n:1..2",), (("of", 0), ("is", state))) for state in ("p", "q", "r")]
        # the first among the states, the nexts that can be done, each cell taken by each state
        for kind, ways, states, expected in (
                ("n:-", [], ("p",), True), ("n:-", [], (), False), ("n:-", [], ("q",), False), ("n:-", [], ("p", "q", "r"), True),
                ("n:2", [(("n:2",), OF)], ("p",), True), ("n:2", [(("n:2",), OF)], (), False),
                ("n:2", [(("n:2",), OF)], ("p", "q"), False), ("n:2", [(("n:2",), OF)], ("q",), False),
                ("n:1", ahead, ("p",), False), ("n:1", ahead, ("p", "q"), False), ("n:1..2", two, ("p", "q", "r"), False)):
            self.check(kind, pipe, ((expected, (ways, *states), (behind,)),))
        pipe = pipe.replace("q:2=r", "q:2=r,q:1=q,r:*=r")
        for ways, states, expected in (
                (two, ("p", "q", "r"), True), (two, ("p", "q"), False), (two, ("p", "r"), False), (two, ("q", "r"), False),
                (two, ("p", "q", "r", "s"), False), (two + [(("n:3",), OF)], ("p", "q", "r"), False),
                (two + [((), (("is", 2),))], ("p", "q", "r"), True), (two + [((), (("is", 3),))], ("p", "q", "r"), False)):
            self.check("n:1..2", pipe, ((expected, (ways, *states), (behind,)),))
            self.check("n:1..2", pipe, ((False, (ways, *states), (behind[:2],)),))

    def test_keep_same_and_tallies(self):
        one = [(("n:1..3",), OF)]
        self.check("n:1..3", "keep 1 n:3..", (
            (True, (one,), ([(("n:3",), OF)],)), (True, (one,), ([((), (("is", 3),))],)), (False, (one,), ([],)),
            (False, (one,), ([((), (("is", 2),))],))))
        self.check("n:1..3", "keep 1 n:4", ((True, (one,), ([],)),))
        two = [(("n:1..3", "n:3..5"), OFS)]
        self.check("n:1..3 n:3..5", "same 1 2", (
            (True, (two,), ([(("n:3",), (("of", 0), ("of", 0)))],)), (True, (two,), ([((), (("is", 3), ("is", 3)))],)),
            (False, (two,), ([((), (("is", 3), ("is", 4)))],)), (False, (two,), ([],))))
        tallied = [(("n:1..3",), (("of", 0), ANY))]
        self.check("n:1..3", "number | keep 2 n:- | cut 2", (
            (True, (one,), (tallied,), (tallied,), ([((), (ANY,))],)), (False, (one,), (tallied,), ([],), ([],))))
        self.check("n:1..3", "first 0", ((True, (one,), ([],)),))
        self.check("n:1..3", "first 1", ((False, (one,), ([],)), (True, (one,), (one,))))

    def test_branches(self):
        one, two = ((read_set("n:1..2"),), OF), ((read_set("n:7"),), OF)
        turned = ((), (("is", 7),))
        for text, entries, expected in (
                ("both (all) (turn 1 1=7,2=7)", ([one], [one], [one], [turned], [one, turned]), True),
                ("both (all) (turn 1 1=7,2=7)", ([one], [one], [one], [two], [one, turned]), True),
                ("both (all) (turn 1 1=7,2=7)", ([one], [], [one], [turned], [one, turned]), False),
                ("both (all) (turn 1 1=7,2=7)", ([one], [one], [], [turned], [one, turned]), False),
                ("both (all) (turn 1 1=7,2=7)", ([one], [one], [one], [], [one, turned]), False),
                ("both (all) (turn 1 1=7,2=7)", ([one], [one], [one], [turned], [one]), False),
                ("both (all) (turn 1 1=7,2=7)", ([one], [one], [one], [turned], [turned]), False),
                ("both (all) (must 1 1=7)", ([one], [one], [one], [turned], [one, turned]), False),
                # what stands at the end of a branch is led on, whether it was led there or not
                ("both (all) (turn 1 1=7,2=7)", ([one], [one, two], [one], [turned], [one]), False),
                ("meet 1 1 (all) (turn 1 1=7,2=7)", ([one], [one], [one], [turned], []), True),
                ("meet 1 1 (all) (turn 1 1=7,2=7)", ([one], [one, two], [one], [turned], []), False),
                ("meet 1 1 (all) (turn 1 1=7,2=7)", ([one], [one, two], [one], [turned], [turned]), True),
                ("meet 1 1 (all) (turn 1 1=7,2=7)", ([one], [one], [one], [], []), False)):
            pipe = read_pipe(text)
            paper = [(place, ways, ()) for place, ways in zip(places(pipe), entries)]
            self.assertIs(holds(read_kind("n:1..2"), pipe, paper), expected, (text, entries))
            self.assertIs(paper_holds(read_kind("n:1..2"), pipe, paper), expected, (text, entries))


KIND = "n:1..3 w:a,b"
PIPE = "walk 1 p p:*=q,q:*=p | number | both (cut 1 2) (cut 1 3)"

NO_PAPERS = (
    None, True, False, 0, 1, 7, "", "paper", b"", b"ab", (), {}, [], [None], [()], [[]], [{}], ["abc"], [1, 2, 3], set(), object(),
    len, [((0,), [], ())], {(0,): ([], ())}, ValueError, Exception("x"), [object()] * 9, [(0, [], ())] * 9)

NO_SETS = (
    None, 5, "n", "w:a", (), ("n",), ("w",), ("n", None), ("n", 5), ("n", "13"), ("n", ()), ("w", True, ()), ("n", ((3, 1),)),
    ("n", ((1, 2), (3, 4))), ("n", ((1, 2), (2, 4))), ("n", ((4, 5), (1, 2))), ("n", ((None, 2), (None, 5))),
    ("n", ((1, None), (5, 6))), ("n", ((1, 2), (None, 9))), ("n", [(1, 3)]), ("n", ([1, 3],)), ("n", ((1, 2, 3),)), ("n", ((1,),)),
    ("n", (1, 3)), ("n", ((True, 3),)), ("n", ((1, True),)), ("n", (("a", "b"),)), ("n", ((1, 3),), ()), ["n", ((1, 3),)],
    ("n", True, ((1, 3),)), ("x", ((1, 3),)), (None, ((1, 3),)), ("w", 1, ("a",)), ("w", None, ("a",)), ("w", True, ("b", "a")),
    ("w", True, ("a", "a")), ("w", True, ["a"]), ("w", True, "a"), ("w", True, ("A",)), ("w", True, ("",)),
    ("w", True, ("abcdefghi",)), ("w", True, (1,)), ("w", True, ([],)), ("w", True, (None,)), ("w", ("a",)), ("w", ((1, 3),)),
    ("w", True, ("a",), ()), ["w", True, ("a",)], ("w", False, ("b", "a")), ("x", True, ("a",)), ("n", True, ("a",)), (None, True, ("a",)))

NO_ENTRIES = (
    None, 0, "of", (), ("of",), ("of", 0, 0), ["of", 0], ("of", 2), ("of", 99), ("of", -1), ("of", -2), ("of", "0"), ("of", None),
    ("of", False), ("of", True), ("of", (0,)), ("is",), ("is", True), ("is", False), ("is", None), ("is", "A"), ("is", ""),
    ("is", "abcdefghi"), ("is", (1,)), ("is", [1]), ["is", 1], ("is", 1, 1), ("any",), ("any", 0), ("no", 0), (0, "of"), (None, 0),
    ("of", 10 ** 60), ("is", ("n", ((1, 1),))))


def wrong_at(paper, at):
    """The paper with, at one place, something that can't stand there."""
    place, ways, states = paper[at]
    entries = [None, 0, "abc", (), place, (place, ways), (place, ways, states, ()), [place, ways, states], (ways, place, states)]
    places_wrong = [None, 0, "0", (), list(place), place + (0,), place[:-1], tuple(map(str, place)), (-1,), place[:-1] + (place[-1] + 1,)]
    # Truths are no whole numbers, though Python takes them to be like 0 and 1.
    places_wrong += [place[:-1] + (bool(place[-1]),)] if place[-1] < 2 else []
    places_wrong += [(True,) + place[1:]] if place[0] == 1 else []
    entries += [(other, ways, states) for other in places_wrong]
    lists = [None, 0, "", (), tuple(ways), {}, {"a": 1}, ways + [None], ways + [()], ways + [0], ways + ["ab"], ways + [ways]]
    lists += [ways[:-1] + [other] for other in way_wrong(ways[-1])] + [ways + [other] for other in way_wrong(ways[0])]
    entries += [(place, other, states) for other in lists]
    for entry in entries:
        yield paper[:at] + [entry] + paper[at + 1:]


def way_wrong(way):
    sets, columns = way
    yield from ((), (sets,), (columns, sets), (sets, columns, ()), [sets, columns], (list(sets), columns), (sets, list(columns)))
    yield from ((None, columns), (sets, None), (sets, ()), (sets, columns[:-1]), (sets, columns + columns[:1]), (dict(enumerate(sets)), columns))
    yield (sets, columns + (("is", 1),))
    for at, entry in enumerate(columns):
        for other in NO_ENTRIES:
            # By how they are shown: ("of", False) is like ("of", 0) for Python.
            if repr(other) != repr(entry):
                yield (sets, columns[:at] + (other,) + columns[at + 1:])
        wrong_sort = ("is", 1) if sort_at(way, at) == "w" else ("is", "a")
        yield (sets, columns[:at] + (wrong_sort,) + columns[at + 1:])
        if entry == ANY:
            yield (sets, columns[:at] + (("is", 1),) + columns[at + 1:])
            yield (sets + (read_set("n:.."),), columns[:at] + (("of", len(sets)),) + columns[at + 1:])
        if entry[0] == "of":
            other_sort = read_set("n:..") if sort_at(way, at) == "w" else read_set("w:*")
            yield (sets[:entry[1]] + (other_sort,) + sets[entry[1] + 1:], columns)
    for told in NO_SETS:
        yield (sets + (told,), columns)
        yield ((told,) + sets, tuple(("of", entry[1] + 1) if entry[0] == "of" else entry for entry in columns))
        for at in range(len(sets)):
            yield (sets[:at] + (told,) + sets[at + 1:], columns)


def sort_at(way, at):
    sets, columns = way
    if columns[at] == ANY:
        return "t"
    if columns[at][0] == "is":
        return "w" if isinstance(columns[at][1], str) else "n"
    return sets[columns[at][1]][0]


class NoPaper(unittest.TestCase):
    def test_things_that_are_no_papers(self):
        itself = []
        itself.append(itself)
        for thing in NO_PAPERS + (itself,):
            self.assertIs(holds(read_kind(KIND), read_pipe(PIPE), thing), False, thing)
            self.assertIs(holds(read_kind("n:1"), read_pipe("all"), thing), False, thing)
        for thing in NO_PAPERS:
            # One of them is the paper of a pipe without workers, for a kind without rows.
            self.assertIs(holds(read_kind("n:-"), read_pipe("all"), thing), thing == [((0,), [], ())])

    def test_papers_with_something_wrong_at_each_place(self):
        kind, pipe = read_kind(KIND), read_pipe(PIPE)
        paper = paper_of(kind, pipe)
        self.assertTrue(holds(kind, pipe, paper))
        for at in range(len(paper)):
            for wrong in wrong_at(paper, at):
                self.assertIs(holds(kind, pipe, wrong), False, wrong[at])

    def test_ways_that_hold_themselves(self):
        kind, pipe = read_kind(KIND), read_pipe(PIPE)
        paper = paper_of(kind, pipe)
        ways = []
        ways.append(ways)
        self.assertFalse(holds(kind, pipe, at_place(paper, 0, ways=ways)))
        self.assertFalse(holds(kind, pipe, at_place(paper, 0, ways=[(ways, ways)])))
        self.assertFalse(holds(kind, pipe, at_place(paper, 0, ways=[((ways,), (("of", 0), ("of", 0)))])))
        self.assertFalse(holds(kind, pipe, paper[:1] + [(ways, ways, ways)] + paper[2:]))

    def test_places_less_more_and_in_another_order(self):
        for kind, pipe in let_by():
            paper = paper_of(kind, pipe)
            self.assertIs(holds(kind, pipe, tuple(paper)), False)
            self.assertIs(holds(kind, pipe, {entry[0]: entry[1:] for entry in paper}), False)
            for at in range(len(paper)):
                self.assertIs(holds(kind, pipe, paper[:at] + paper[at + 1:]), False)
                self.assertIs(holds(kind, pipe, paper[:at] + [paper[at]] + paper[at:]), False)
                self.assertIs(holds(kind, pipe, paper[at + 1:] + paper[:at]), False)
                if at:
                    self.assertIs(holds(kind, pipe, paper[:at - 1] + [paper[at], paper[at - 1]] + paper[at + 1:]), False)
            self.assertIs(holds(kind, pipe, paper + [((len(pipe) + 1,), [], ())]), False)

    def test_a_paper_of_another_pipe_or_kind(self):
        paper = paper_of(read_kind("n:1..3"), read_pipe("apart | sort 1"))
        self.assertTrue(holds(read_kind("n:1..3"), read_pipe("sort 1 | apart"), paper))
        self.assertTrue(holds(read_kind("n:2"), read_pipe("sort 1 | apart"), paper))
        self.assertFalse(holds(read_kind("n:1..4"), read_pipe("sort 1 | apart"), paper))
        self.assertFalse(holds(read_kind("w:a"), read_pipe("sort 1 | apart"), paper))
        self.assertFalse(holds(read_kind("n:1 n:1"), read_pipe("sort 1 | apart"), paper))
        self.assertFalse(holds(read_kind("n:1..3"), read_pipe("sort 1 | number"), paper))
        self.assertFalse(holds(read_kind("n:1..3"), read_pipe("sort 1"), paper))
        self.assertFalse(holds(read_kind("n:1..3"), read_pipe("sort 1 | apart | apart"), paper))
        self.assertFalse(holds(read_kind("n:1..3"), read_pipe("both (all) (all)"), paper))

    def test_a_pipe_that_falls_has_none(self):
        # Whatever changes are made to the paper of a pipe that is let by, it holds for none that falls.
        for kind, pipe, falling in (
                ("n:1..3", "must 1 1=1,2=2,3=3", "must 1 1=1,2=2"), ("n:1..3", "turn 1 1=2 | must 1 2=2,3=3", "turn 1 1=2 | must 1 2=2,4=4"),
                ("n:1..2", "walk 1 p p:1=q,p:*=p,q:*=q", "walk 1 p p:1=q,p:*=p,q:1=q"),
                ("n:1..2", "walk 1 p p:1=q,p:*=p,q:*=q | must 2 p=p,q=q", "walk 1 p p:1=q,p:*=p,q:*=q | must 2 p=p")):
            paper = paper_of(read_kind(kind), read_pipe(pipe))
            self.assertTrue(holds(read_kind(kind), read_pipe(pipe), paper))
            for new in [paper] + list(papers_changed(paper, walks_of(read_pipe(pipe)))):
                self.assertFalse(holds(read_kind(kind), read_pipe(falling), new))


class Refused(unittest.TestCase):
    def test_a_pipe_that_is_not_put_together(self):
        papers = NO_PAPERS + (paper_of(read_kind(KIND), read_pipe(PIPE)),)
        for kind, text, place, why in REFUSED:
            for paper in papers:
                with self.assertRaises(NoPipe, msg=text) as caught:
                    holds(read_kind(kind), read_pipe(text), paper)
                self.assertEqual((caught.exception.place, caught.exception.why), (place, why))

    def test_what_is_handed_in_stays_as_it_was(self):
        for kind, pipe in let_by():
            paper = paper_of(kind, pipe)
            for handed in (paper, paper[:-1], at_place(paper, 0, ways=[])):
                before = copy.deepcopy((kind, pipe, handed))
                first = holds(kind, pipe, handed)
                self.assertEqual((kind, pipe, handed), before)
                self.assertIs(holds(kind, pipe, handed), first)
        kind, pipe = read_kind("n:1"), read_pipe("all")
        paper = paper_of(kind, pipe)
        self.assertTrue(holds(kind, pipe, paper))
        paper[0][1].clear()
        self.assertFalse(holds(kind, pipe, paper))


if __name__ == "__main__":
    unittest.main()
