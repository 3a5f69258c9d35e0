"""What several test files ask alike: refusals, and that nothing is kept, changed or told twice."""

import copy
import unittest

from lagwedge.plan import Plan


class Case(unittest.TestCase):

    def refuses(self, kind, fields, call, *given, **named):
        """The call is refused with just this class and these fields, each of the very sort that was handed in."""
        with self.assertRaises(kind) as caught:
            call(*given, **named)
        refusal = caught.exception
        self.assertIs(type(refusal), kind)
        self.assertEqual(vars(refusal), {"word": kind.__name__, **fields})
        for name, field in fields.items():
            self.assertIs(type(getattr(refusal, name)), type(field))

    def leaves_all_alone(self, call, *given, **named):
        """Nothing that is handed in is changed, and whoever changes what is told changes nothing else."""
        kept = copy.deepcopy((given, named))
        told = call(*given, **named)
        expected = copy.deepcopy(told)
        self.assertEqual(shown((given, named)), shown(kept))
        spoil(told)
        self.assertEqual(shown((given, named)), shown(kept))
        self.assertEqual(call(*given, **named), expected)

    def keeps_nothing(self, call, *given, **named):
        """What was told stays as it was when the lists that were handed in are changed afterwards."""
        told = call(*given, **named)
        expected = copy.deepcopy(told)
        spoil((given, tuple(named.values())))
        self.assertEqual(told, expected)


def spoil(thing):
    """Empty all lists in a thing."""
    if isinstance(thing, (list, tuple)):
        for held in thing:
            spoil(held)
    if isinstance(thing, list):
        thing.clear()


def shown(thing):
    """A thing as it can be compared, plans by what they tell."""
    if isinstance(thing, Plan):
        return ("Plan", thing.last, thing.free, thing.lefts(), thing.picks())
    if isinstance(thing, dict):
        return {name: shown(held) for name, held in thing.items()}
    if isinstance(thing, (list, tuple)):
        return type(thing)(shown(held) for held in thing)
    return thing
