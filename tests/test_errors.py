"""The error classes: their bases, attributes and parameters."""

import inspect
import unittest

from allreadings import errors

TOLD = {
    ("TermError", ValueError): {
        "InvalidMany": ["value"], "AskedBothWays": ["name"], "BadText": ["row", "spot"], "CrossedBounds": [],
        "DividedByNought": [], "EarlierMoment": ["moment", "later"], "IdleSensor": ["name", "row"],
        "InvalidArrival": ["value"], "InvalidCommand": ["value"], "InvalidLetter": ["value"], "NoDirection": [],
        "TakenName": ["name", "row"], "TwiceLabel": ["label"], "UnevenPoint": ["many"], "UnfitAnswer": ["value"],
        "UnfitQuestion": ["value"], "UnlikeMany": ["many", "other"], "UnlikeWorlds": ["name", "other"],
        "WrongMoment": ["moment", "row"],
    },
    ("MissingError", LookupError): {
        "LackingStatement": ["word"], "MissingMoment": ["moment"], "MissingSensor": ["name"], "NothingGiven": [],
        "StrangeLabel": ["label"], "TooFewPairs": ["many"], "UnknownDesk": ["name"], "UnknownLabel": ["label"],
        "UnknownName": ["name", "row"], "UnknownNote": ["label"], "UnknownWorld": ["name"],
    },
    ("StateError", RuntimeError): {
        "CannotBeRead": [], "CommandFailed": ["place"], "HeardAlready": ["label"], "NoCourse": [],
        "NotLeast": ["lot"], "NothingToRedo": [], "NothingToUndo": [], "TakenLabel": ["label"],
        "TakenNote": ["label"], "TakenWorld": ["name"],
    },
    ("LimitError", ArithmeticError): {"TooMany": ["what", "limit"]},
}


class Errors(unittest.TestCase):
    def test_bases(self):
        for (base, above), kinds in TOLD.items():
            self.assertEqual(getattr(errors, base).__bases__, (above,))
            for name in kinds:
                self.assertEqual(getattr(errors, name).__bases__, (getattr(errors, base),), name)

    def test_no_other_classes(self):
        listed = {name for (base, _), kinds in TOLD.items() for name in [base, *kinds]}
        found = {name for name, value in vars(errors).items() if inspect.isclass(value)}
        self.assertEqual(found, listed)

    def test_attributes_and_parameters(self):
        for kinds in TOLD.values():
            for name, attributes in kinds.items():
                kind = getattr(errors, name)
                self.assertEqual(list(inspect.signature(kind).parameters), attributes, name)
                for values in ([1, 2], ["x", None], [[1, [2]], (True,)]):
                    values = values[:len(attributes)]
                    by_place = kind(*values)
                    by_name = kind(**dict(zip(attributes, values)))
                    for error in (by_place, by_name):
                        self.assertEqual([getattr(error, a) for a in attributes], values, name)
                        self.assertEqual(vars(error), dict(zip(attributes, values)), name)
                        with self.assertRaises(kind):
                            raise error


if __name__ == "__main__":
    unittest.main()
