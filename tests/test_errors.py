"""The refusals of the interface, those of later stages too."""

import inspect
import unittest

from lagwedge import errors
from tests.samples import MANY

UNDER_LAG_ERROR = {
    "BadPart": [], "BadWedge": ["row"], "Unlike": [], "BadPlan": [], "NoFactor": ["step", "below", "above"],
    "NoSplit": ["step"], "BadSizes": ["row"], "NoRate": [], "NoMethod": [], "Few": ["count", "least"],
    "NoMiss": ["year", "lag"], "BadDeed": [], "Full": ["most"], "Gone": ["number"], "Shut": ["number"],
    "NotShut": ["number"], "Ahead": ["at", "year"], "Twice": ["row"], "BadPage": ["row"],
}
UNDER_OTHERS = {
    "NoShare": (ZeroDivisionError, []), "NoCell": (KeyError, ["year", "lag"]), "NoDamage": (KeyError, ["number"]),
    "NoKind": (LookupError, ["kind"]), "NoRow": (IndexError, ["row"]), "NoStep": (IndexError, ["step"]),
    "NothingBack": (RuntimeError, []),
}


def all_refusals():
    """Each name with the one class right above it and its fields."""
    listed = {name: (errors.LagError, fields) for name, fields in UNDER_LAG_ERROR.items()}
    listed.update(UNDER_OTHERS)
    return listed


class Refusals(unittest.TestCase):

    def test_lag_error(self):
        self.assertEqual(errors.LagError.__bases__, (ValueError,))
        self.assertEqual(errors.LagError().word, "LagError")

    def test_class_above(self):
        for name, (above, _) in all_refusals().items():
            with self.subTest(name):
                self.assertEqual(getattr(errors, name).__bases__, (above,))

    def test_fields_by_place(self):
        for name, (_, fields) in all_refusals().items():
            with self.subTest(name):
                made = getattr(errors, name)(*range(10, 10 + len(fields)))
                asked = {field: 10 + at for at, field in enumerate(fields)}
                self.assertEqual(vars(made), {"word": name, **asked})

    def test_fields_by_name(self):
        for name, (_, fields) in all_refusals().items():
            with self.subTest(name):
                asked = {field: [field] for field in fields}
                made = getattr(errors, name)(**asked)
                self.assertEqual(vars(made), {"word": name, **asked})

    def test_arguments(self):
        for name, (_, fields) in all_refusals().items():
            with self.subTest(name):
                self.assertEqual(list(inspect.signature(getattr(errors, name)).parameters), fields)

    def test_message_of_numbers_of_many_figures(self):
        for name, (_, fields) in all_refusals().items():
            with self.subTest(name):
                self.assertIn(name, str(getattr(errors, name)(*[MANY] * len(fields))))

    def test_no_other_refusals(self):
        defined = [name for name, thing in vars(errors).items() if inspect.isclass(thing)]
        self.assertEqual(sorted(defined), sorted(["LagError", *all_refusals()]))
