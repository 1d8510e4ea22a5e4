"""The names of the interface are there, with their arguments."""

import importlib
import inspect
import unittest

INTERFACE = {
    "cells": ("show_rows(rows)", "read_rows(text)"),
    "sets": (
        "common(one, other)", "either(one, other)", "less(one, other)", "has(told, cell)", "is_none(told)",
        "lies_in(one, other)", "another(told, cell)", "show_set(told)", "read_set(text)"),
    "kinds": ("is_of(kind, row)", "head_of(kind)", "show_kind(kind)", "read_kind(text)"),
    "places": ("places(pipe)",),
    "pipetexts": ("show_pipe(pipe)", "read_pipe(text)"),
    "heads": ("head_behind(head, pipe)", "is_loose(head, pipe, place)"),
    "running": ("told(pipe, rows)",),
    "coming": ("first_fall(kind, pipe)", "bringing(kind, pipe, place, row)"),
    "papers": ("paper_of(kind, pipe)",),
    "holding": ("holds(kind, pipe, paper)",),
    "pieces": ("begun(pipe)", "fed(pipe, state, rows)", "ended(pipe, state)", "kept(pipe, state)"),
    "facts": ("facts_at(kind, pipe, place)",),
    "steps": ("stepped(kind, pipe, step)",),
    "shorter": ("counted(pipe)", "shorter(kind, pipe)"),
    "trees": ("follows(kind, one, other, tree)",),
    "alike": ("compared(kind, one, other)",),
    "desk": ("Desk()",),
}


class Interface(unittest.TestCase):
    def test_each_name_is_there_with_its_arguments(self):
        for module, calls in INTERFACE.items():
            home = importlib.import_module(f"rowpipes.{module}")
            for call in calls:
                name = call.partition("(")[0]
                self.assertEqual(name + str(inspect.signature(getattr(home, name))), call)

    def test_the_desk_has_its_method(self):
        home = importlib.import_module("rowpipes.desk")
        self.assertEqual(str(inspect.signature(home.Desk().say)), "(row)")


if __name__ == "__main__":
    unittest.main()
