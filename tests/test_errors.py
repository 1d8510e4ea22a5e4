"""The refusals: their classes, bases and values."""

import unittest

from rowpipes import errors

OF_TEXT = ("NoText", "NoPlace", "TooMany", "NoStep", "NoLine", "Unknown")
WITH_VALUES = ("NoPipe", "Falls", "Falling")


class Classes(unittest.TestCase):
    def test_pipe_error_stands_under_value_error(self):
        self.assertEqual(errors.PipeError.__bases__, (ValueError,))

    def test_each_stands_straight_under_pipe_error(self):
        for name in OF_TEXT + WITH_VALUES:
            self.assertEqual(getattr(errors, name).__bases__, (errors.PipeError,), name)

    def test_none_stands_under_another_one(self):
        classes = [getattr(errors, name) for name in OF_TEXT + WITH_VALUES]
        for one in classes:
            self.assertEqual([other for other in classes if issubclass(one, other)], [one])


class Values(unittest.TestCase):
    def test_those_of_a_text_are_made_of_it(self):
        for name in OF_TEXT:
            error = getattr(errors, name)("some words")
            self.assertEqual(str(error), "some words", name)
            with self.assertRaises(errors.PipeError):
                raise error

    def test_no_pipe_has_place_and_why(self):
        error = errors.NoPipe((1, 0, 2), "column")
        self.assertEqual((error.place, error.why), ((1, 0, 2), "column"))
        self.assertIsInstance(str(error), str)

    def test_falls_has_place_and_row(self):
        error = errors.Falls((3,), (1, "red"))
        self.assertEqual((error.place, error.row), ((3,), (1, "red")))
        self.assertIsInstance(str(error), str)

    def test_falling_has_place_and_rows(self):
        error = errors.Falling((0,), [(1,), (2,)])
        self.assertEqual((error.place, error.rows), ((0,), [(1,), (2,)]))
        self.assertIsInstance(str(error), str)

    def test_falling_does_not_keep_the_list_that_was_handed_in(self):
        rows = [(1,)]
        error = errors.Falling((0,), rows)
        rows.append((2,))
        self.assertEqual(error.rows, [(1,)])
        error.rows.append((3,))
        self.assertEqual(rows, [(1,), (2,)])

    def test_objects_have_their_own_values(self):
        one, other = errors.NoPipe((0,), "sort"), errors.NoPipe((1,), "wide")
        self.assertEqual((one.place, one.why, other.place, other.why), ((0,), "sort", (1,), "wide"))


if __name__ == "__main__":
    unittest.main()
