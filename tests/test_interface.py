"""The interface of DOC.md: names, arguments, default values and what is handed in by name alone."""

import importlib
import inspect
import unittest

FUNCTIONS = {
    "parts": {
        "part": "(top, bottom=1)", "is_part": "(thing)", "plus": "(one, other)", "minus": "(one, other)",
        "times": "(one, other)", "over": "(one, other)", "order": "(one, other)",
        "total": "(parts, *, start=(0, 1))", "shown_part": "(one, *, base=10)", "read_part": "(text, *, base=10)",
    },
    "ladder": {
        "steps": "(wedge, *, plan=None)", "factors": "(wedge, *, plan=None)",
        "agrees": "(wedge, step, factor, *, plan=None)",
    },
    "developed": {
        "developed": "(wedge, *, plan=None)", "ends": "(wedge, *, plan=None)", "still": "(wedge, *, plan=None)",
        "still_sum": "(wedge, *, plan=None)", "foretold": "(wedge, *, plan=None)",
    },
    "split": {
        "shares": "(wedge, *, plan=None)", "split": "(wedge, *, plan=None)", "product": "(tops, columns)",
        "misfit": "(wedge, tops, columns)",
    },
    "methods": {
        "prior": "(wedge, begins, *, plan=None, rounds=1)", "rates": "(wedge, sizes)", "even": "(wedge, sizes)",
        "one_rate": "(wedge, sizes, *, plan=None)", "by_name": "(word, wedge, sizes, *, plan=None)",
        "compared": "(ones, others)",
    },
    "misses": {"miss": "(wedge, step, factor)", "least": "(wedge)", "spreads": "(wedge)", "unsure": "(wedge)"},
    "reach": {"last_lag": "(years, depth, row)", "reach": "(years, depth, row, lag)"},
}
CLASSES = {
    ("wedge", "Wedge"): {
        "__init__": "(self, first, depth, rows)", "rows": "(self)", "years": "(self)", "known": "(self, year)",
        "cell": "(self, year, lag)", "sums": "(self)", "latest": "(self)", "whole_sum": "(self)",
        "changed": "(self, year, lag, amount)", "joined": "(self, other)", "scaled": "(self, amount)",
        "grown": "(self, adds)", "__len__": "(self)", "__eq__": "(self, other)", "__repr__": "(self)",
        "__str__": "(self)",
    },
    ("plan", "Plan"): {
        "__init__": "(self, *, last=0, free=(1, 1))", "keep_last": "(self, last)", "leave": "(self, year, step)",
        "bring": "(self, year, step)", "pick": "(self, step, factor)", "unpick": "(self, step)",
        "take_back": "(self)", "lefts": "(self)", "picks": "(self)", "twin": "(self)",
    },
}
VALUES = {("wedge", "Wedge"): ["first", "depth", "look"], ("plan", "Plan"): ["last", "free"]}


def module(name):
    return importlib.import_module(f"lagwedge.{name}")


class Interface(unittest.TestCase):

    def test_functions(self):
        for file, functions in FUNCTIONS.items():
            for name, arguments in functions.items():
                with self.subTest(f"{file}.{name}"):
                    function = getattr(module(file), name)
                    self.assertEqual(str(inspect.signature(function)), arguments)
                    self.assertEqual(function.__module__, f"lagwedge.{file}")

    def test_methods(self):
        for (file, kind), methods in CLASSES.items():
            held = getattr(module(file), kind)
            self.assertEqual(held.__module__, f"lagwedge.{file}")
            for name, arguments in methods.items():
                with self.subTest(f"{kind}.{name}"):
                    self.assertIn(name, vars(held))
                    self.assertEqual(str(inspect.signature(vars(held)[name])), arguments)

    def test_values_are_set_on_each_object(self):
        made = {("wedge", "Wedge"): module("wedge").Wedge(2001, 1, [[(1, 1)]]), ("plan", "Plan"): module("plan").Plan()}
        for where, values in VALUES.items():
            for name in values:
                self.assertIn(name, vars(made[where]))
