"""Places of a pipe in running order (point 9)."""

import unittest

from rowpipes.places import places

APART = ("apart",)
SIMPLE = (
    ("keep", 1, ("n", ())), ("same", 1, 2), ("cut", (1, 2)), ("turn", 1, ((1, 2),)), ("must", 1, ((1, 2),)),
    ("walk", 1, "a", ()), ("sort", ((1, True),)), APART, ("count", ()), ("sum", (), 1), ("number",), ("first", 3))


class Places(unittest.TestCase):
    def test_no_worker(self):
        self.assertEqual(places(()), [(0,)])

    def test_each_worker_without_branches(self):
        for worker in SIMPLE:
            self.assertEqual(places((worker,)), [(0,), (1,)], worker)

    def test_many_workers(self):
        self.assertEqual(places(SIMPLE), [(at,) for at in range(len(SIMPLE) + 1)])
        self.assertEqual(places((APART,) * 21), [(at,) for at in range(22)])

    def test_branches_without_workers(self):
        for worker in (("both", (), ()), ("meet", 1, 2, (), ())):
            self.assertEqual(places((worker,)), [(0,), (0, 0, 0), (0, 1, 0), (1,)])

    def test_branches_with_workers(self):
        for worker in (("both", (APART,), (APART, APART)), ("meet", 1, 2, (APART,), (APART, APART))):
            self.assertEqual(
                places((APART, worker, APART)),
                [(0,), (1,), (1, 0, 0), (1, 0, 1), (1, 1, 0), (1, 1, 1), (1, 1, 2), (2,), (3,)])

    def test_one_branched_worker_behind_another(self):
        pipe = (("both", (), (APART,)), ("meet", 1, 1, (APART,), ()))
        self.assertEqual(places(pipe), [
            (0,), (0, 0, 0), (0, 1, 0), (0, 1, 1), (1,), (1, 0, 0), (1, 0, 1), (1, 1, 0), (2,)])

    def test_branches_within_one_another(self):
        inmost = ("meet", 1, 1, (APART,), ())
        middle = ("both", (), (APART, inmost))
        pipe = (APART, ("both", (middle,), (APART,)))
        self.assertEqual(places(pipe), [
            (0,), (1,),
            (1, 0, 0),
            (1, 0, 0, 0, 0),
            (1, 0, 0, 1, 0), (1, 0, 0, 1, 1),
            (1, 0, 0, 1, 1, 0, 0), (1, 0, 0, 1, 1, 0, 1), (1, 0, 0, 1, 1, 1, 0),
            (1, 0, 0, 1, 2),
            (1, 0, 1),
            (1, 1, 0), (1, 1, 1),
            (2,)])

    def test_many_branches_within_one_another(self):
        pipe = ()
        for deep in range(8):
            told = places(pipe)
            pipe = (("both", pipe, (APART,)),)
            self.assertEqual(
                places(pipe), [(0,)] + [(0, 0) + place for place in told] + [(0, 1, 0), (0, 1, 1), (1,)])

    def test_no_place_twice(self):
        inner = (("both", (APART, ("meet", 1, 1, (), ())), (APART,)), APART)
        told = places((("both", inner, inner), ("meet", 1, 1, inner, inner)))
        self.assertEqual(len(told), len(set(told)))

    def test_a_told_list_is_the_askers_own(self):
        pipe = (("both", (APART,), ()), APART)
        told = places(pipe)
        self.assertIs(type(told), list)
        again = list(told)
        told.clear()
        self.assertEqual(places(pipe), again)
        self.assertEqual(pipe, (("both", (APART,), ()), APART))


if __name__ == "__main__":
    unittest.main()
