"""The interface of DOC.md: names, arguments, default values and what is handed in by name alone."""

import importlib
import inspect
import unittest

FUNCTIONS = {
    "parts": {
        "part": "(top, bottom=1)", "is_part": "(thing)", "plus": "(one, other)", "minus": "(one, other)",
        "times": "(one, other)", "over": "(one, other)", "order": "(one, other)",
        "total": "(parts, *, start=(0, 1))", "shown_part": "(one, *, base=10)", "read_part": "(text, *, base=10)",
    },
    "ladder": {
        "steps": "(wedge, *, plan=None)", "factors": "(wedge, *, plan=None)",
        "agrees": "(wedge, step, factor, *, plan=None)",
    },
    "developed": {
        "developed": "(wedge, *, plan=None)", "ends": "(wedge, *, plan=None)", "still": "(wedge, *, plan=None)",
        "still_sum": "(wedge, *, plan=None)", "foretold": "(wedge, *, plan=None)",
    },
    "split": {
        "shares": "(wedge, *, plan=None)", "split": "(wedge, *, plan=None)", "product": "(tops, columns)",
        "misfit": "(wedge, tops, columns)",
    },
    "methods": {
        "prior": "(wedge, begins, *, plan=None, rounds=1)", "rates": "(wedge, sizes)", "even": "(wedge, sizes)",
        "one_rate": "(wedge, sizes, *, plan=None)", "by_name": "(word, wedge, sizes, *, plan=None)",
        "compared": "(ones, others)",
    },
    "misses": {"miss": "(wedge, step, factor)", "least": "(wedge)", "spreads": "(wedge)", "unsure": "(wedge)"},
    "reach": {"last_lag": "(years, depth, row)", "reach": "(years, depth, row, lag)"},
    "slopes": {"slopes": "(wedge)", "gap": "(one, other)"},
    "cells": {
        "wedge_of": "(book, branch, kind, look, *, known=None)",
        "diagonal": "(book, branch, kind, at, *, known=None)",
        "wedge_without": "(book, damage, branch, kind, look, *, known=None)",
        "by_damage": "(book, branch, kind, look, *, known=None)",
        "between": "(book, branch, kind, look, start, end)",
    },
    "pages": {"written": "(book)", "read_book": "(text)"},
}
CLASSES = {
    ("wedge", "Wedge"): {
        "__init__": "(self, first, depth, rows)", "rows": "(self)", "years": "(self)", "known": "(self, year)",
        "cell": "(self, year, lag)", "sums": "(self)", "latest": "(self)", "whole_sum": "(self)",
        "changed": "(self, year, lag, amount)", "joined": "(self, other)", "scaled": "(self, amount)",
        "grown": "(self, adds)", "__len__": "(self)", "__eq__": "(self, other)", "__repr__": "(self)",
        "__str__": "(self)",
    },
    ("plan", "Plan"): {
        "__init__": "(self, *, last=0, free=(1, 1))", "keep_last": "(self, last)", "leave": "(self, year, step)",
        "bring": "(self, year, step)", "pick": "(self, step, factor)", "unpick": "(self, step)",
        "take_back": "(self)", "lefts": "(self)", "picks": "(self)", "twin": "(self)",
    },
    ("keeper", "Keeper"): {
        "__init__": "(self, wedge)", "table": "(self)", "tops": "(self)", "now": "(self)",
        "move": "(self, year, lag, amount)", "take_back": "(self)", "grow": "(self, adds)",
    },
    ("book", "Book"): {
        "__init__": "(self, first, *, depth=6)", "notice": "(self, branch, year, at)",
        "pay": "(self, damage, at, amount)", "gain": "(self, damage, at, amount)",
        "guess": "(self, damage, at, amount)", "close": "(self, damage, at)", "reopen": "(self, damage, at)",
        "shift": "(self, damage, year)", "merge": "(self, damage, into)", "strike": "(self, row)",
        "drop": "(self, damage)", "undo": "(self)", "redo": "(self)", "rows": "(self)",
        "damages": "(self, *, known=None)", "about": "(self, number, *, known=None)",
        "movements": "(self, kind, branch, *, known=None)", "__len__": "(self)",
    },
    ("closings", "Ledger"): {
        "__init__": "(self, book, branch, kind)", "shut": "(self, look)", "booked": "(self, at)",
        "results": "(self)", "__len__": "(self)",
    },
    ("desk", "Desk"): {"__init__": "(self, first, *, depth=6)", "ask": "(self, line)"},
}
VALUES = {
    ("wedge", "Wedge"): ["first", "depth", "look"], ("plan", "Plan"): ["last", "free"],
    ("keeper", "Keeper"): ["anew"], ("book", "Book"): ["first", "depth"],
}


def module(name):
    return importlib.import_module(f"lagwedge.{name}")


class Interface(unittest.TestCase):

    def test_functions(self):
        for file, functions in FUNCTIONS.items():
            for name, arguments in functions.items():
                with self.subTest(f"{file}.{name}"):
                    function = getattr(module(file), name)
                    self.assertEqual(str(inspect.signature(function)), arguments)
                    self.assertEqual(function.__module__, f"lagwedge.{file}")

    def test_methods(self):
        for (file, kind), methods in CLASSES.items():
            held = getattr(module(file), kind)
            self.assertEqual(held.__module__, f"lagwedge.{file}")
            for name, arguments in methods.items():
                with self.subTest(f"{kind}.{name}"):
                    self.assertIn(name, vars(held))
                    self.assertEqual(str(inspect.signature(vars(held)[name])), arguments)

    def test_values_are_set_on_each_object(self):
        wedge = module("wedge").Wedge(2001, 1, [[(1, 1)]])
        made = {("wedge", "Wedge"): wedge, ("plan", "Plan"): module("plan").Plan(),
                ("keeper", "Keeper"): module("keeper").Keeper(wedge), ("book", "Book"): module("book").Book(2001)}
        for where, values in VALUES.items():
            for name in values:
                self.assertIn(name, vars(made[where]))
