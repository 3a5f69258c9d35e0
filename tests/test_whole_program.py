"""Promises over the whole program: calls by places and by names, lists told anew, and no clock, chance or files."""

import copy
import inspect
import io
import random
import sys
import time
import unittest
from unittest import mock

from lagwedge.book import Book
from lagwedge.closings import Ledger
from lagwedge.desk import Desk
from lagwedge.keeper import Keeper
from lagwedge.pages import written
from lagwedge.plan import Plan
from lagwedge.wedge import Wedge
from tests.cases import spoil
from tests.plainbook import filled
from tests.test_interface import CLASSES, FUNCTIONS, module

ROWS = [[(4, 1), (2, 1), (3, 1)], [(6, 1), (3, 1), (9, 1)], [(10, 1), (1, 1)], [(5, 1)]]
DEEDS = [("notice", 0, 2001, 2001), ("notice", 0, 2002, 2002), ("pay", 1, 2001, 4), ("pay", 1, 2002, 6), ("pay", 2, 2002, 7),
         ("guess", 2, 2003, -5), ("notice", 0, 2003, 2003), ("close", 3, 2004)]


def wedge():
    return Wedge(2001, 2, copy.deepcopy(ROWS))


def book():
    return filled(Book(2001, depth=2), DEEDS)


def ledger():
    made = Ledger(book(), 0, "paid")
    for look in (2001, 2002, 2003):
        made.shut(look)
    return made


def plan():
    made = Plan(last=2)
    made.leave(2001, 0)
    made.pick(1, (2, 1))
    return made


def functions():
    """A thing for each argument of each function."""
    lists = {"tops": [(1, 1)] * 4, "columns": [(1, 3)] * 3, "sizes": [(7, 1)] * 4, "begins": [(7, 2)] * 4,
             "ones": [(1, 2)], "others": [(2, 3)], "parts": [(1, 2), (2, 3)]}
    plain = {"top": 4, "bottom": 6, "thing": (1, 2), "one": (1, 2), "other": (2, 3), "start": (1, 7), "base": 3, "text": "12",
             "step": 1, "factor": (3, 2), "plan": plan(), "rounds": 2, "word": "even", "years": 4, "depth": 2, "row": 1,
             "lag": 1, "book": book(), "branch": 0, "kind": "told", "look": 2004, "at": 2002, "damage": 2, "known": 6,
             "end": 8, "wedge": wedge()}
    turned = {"gap": {"one": wedge(), "other": wedge().scaled((2, 1))}, "between": {"start": 2},
              "read_book": {"text": written(book())}}
    for file, held in FUNCTIONS.items():
        for name in held:
            function = getattr(module(file), name)
            given = {argument: {**plain, **lists, **turned.get(name, {})}[argument]
                     for argument in inspect.signature(function).parameters}
            yield function, given


def methods():
    """A made object of each class, and a thing for each argument of each of its methods, in an order that is granted."""
    plain = {"year": 2003, "lag": 1, "amount": (1, 2), "other": wedge(), "adds": [(1, 1)] * 5, "last": 3, "step": 0,
             "factor": (3, 2), "branch": 0, "at": 2, "damage": 1, "into": 2, "row": 3, "number": 2, "known": 5, "kind": "net",
             "look": 2005, "line": "causes told all 2004"}
    turned = {"notice": {"at": 2004}, "pay": {"at": 2004, "amount": 5}, "gain": {"at": 2004, "amount": 5},
              "guess": {"at": 2004, "amount": -5}, "close": {"at": 2004}, "reopen": {"at": 2004, "damage": 3},
              "shift": {"year": 2001}, "merge": {"damage": 2, "into": 1}, "bring": {"year": 2001}, "unpick": {"step": 1}}
    makers = {"Wedge": wedge, "Plan": plan, "Keeper": lambda: moved(Keeper(wedge())), "Book": undone_book, "Ledger": ledger,
              "Desk": filled_desk}
    for (_, kind), held in CLASSES.items():
        for name in held:
            if not name.startswith("__"):
                arguments = [argument for argument in inspect.signature(getattr(makers[kind](), name)).parameters]
                yield makers[kind], name, {argument: {**plain, **turned.get(name, {})}[argument] for argument in arguments}


def moved(keeper):
    keeper.move(2001, 0, (1, 1))
    return keeper


def undone_book():
    made = filled(book(), [("pay", 1, 2009, 1)])
    made.undo()
    return made


def filled_desk():
    desk = Desk(2001, depth=2)
    for deed in DEEDS:
        desk.ask(" ".join(map(str, deed)))
    return desk


def placed(function, given):
    """Those things that can be handed in by their place, and the others."""
    parameters = inspect.signature(function).parameters
    alone = [name for name in given if parameters[name].kind == inspect.Parameter.KEYWORD_ONLY]
    return [given[name] for name in given if name not in alone], {name: given[name] for name in alone}


def compared(told):
    """What is told, as it can be compared."""
    if isinstance(told, Plan):
        return (told.last, told.free, told.lefts(), told.picks())
    if isinstance(told, Book):
        return (told.first, told.depth, told.rows())
    return copy.deepcopy(told)


class Calls(unittest.TestCase):

    def test_functions_by_places_and_by_names(self):
        for function, given in functions():
            with self.subTest(function.__name__):
                by_place, by_name = placed(function, given)
                told = compared(function(*by_place, **by_name))
                self.assertEqual(compared(function(**given)), told)
                self.assertEqual(compared(function(**dict(reversed(list(given.items()))))), told)

    def test_methods_by_places_and_by_names(self):
        for make, name, given in methods():
            with self.subTest(name):
                by_place, by_name = placed(getattr(make(), name), given)
                told = compared(getattr(make(), name)(*by_place, **by_name))
                self.assertEqual(compared(getattr(make(), name)(**given)), told)
                self.assertEqual(compared(getattr(make(), name)(**dict(reversed(list(given.items()))))), told)

    def test_by_name_alone(self):
        for function, given in functions():
            by_place, by_name = placed(function, given)
            if by_name:
                with self.subTest(function.__name__), self.assertRaises(TypeError):
                    function(*by_place, *by_name.values())


class HandedIn(unittest.TestCase):

    def test_nothing_handed_in_is_changed_and_every_list_is_told_anew(self):
        for function, given in functions():
            with self.subTest(function.__name__):
                before = {name: compared(thing) for name, thing in given.items()}
                told = function(**given)
                self.assertEqual({name: compared(thing) for name, thing in given.items()}, before)
                if isinstance(told, (list, tuple)):
                    expected = copy.deepcopy(told)
                    spoil(told)
                    self.assertEqual(function(**given), expected)
                    self.assertEqual({name: compared(thing) for name, thing in given.items()}, before)

    def test_lists_told_by_methods_are_made_anew(self):
        for make, name, given in methods():
            held = make()
            told = getattr(held, name)(**given)
            if isinstance(told, (list, tuple)) and name not in ("undo", "redo"):
                with self.subTest(name):
                    expected = copy.deepcopy(told)
                    spoil(told)
                    self.assertEqual(getattr(held, name)(**given), expected)


class NothingElse(unittest.TestCase):

    def test_no_clock_no_chance_no_files(self):
        barred = AssertionError("asked for what the program doesn't use")
        with mock.patch("builtins.open", side_effect=barred), mock.patch.object(time, "time", side_effect=barred), \
                mock.patch.object(random, "random", side_effect=barred), \
                mock.patch.object(sys, "stdout", io.StringIO()) as shown, mock.patch.object(sys, "stdin", None):
            for function, given in functions():
                function(**given)
            for make, name, given in methods():
                getattr(make(), name)(**given)
        self.assertEqual(shown.getvalue(), "")

    def test_asked_twice_told_twice(self):
        for function, given in functions():
            self.assertEqual(compared(function(**given)), compared(function(**given)), function.__name__)
