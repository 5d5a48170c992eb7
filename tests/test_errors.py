"""Point 1 and the sections shownwrites/errors.py and shownwrites/refusals.py."""

import unittest

from shownwrites import errors, refusals

ERRORS = {
    "NoTable": ["name"], "NoColumn": ["column"], "BadName": ["name"], "DuplicateName": ["name"],
    "DuplicateTable": ["name"], "BadCount": ["count"], "BadSign": ["sign"], "TooFew": ["count"],
    "InvalidTable": ["name"], "InvalidRow": ["name", "row"], "DuplicateKey": ["name", "key"],
    "InvalidChange": ["change"], "SamePlace": ["place"], "Clash": ["place"], "NoChange": ["place"],
    "Misfit": ["place"], "Unlike": ["name"], "SameTable": ["name"], "Empty": ["column"],
    "Narrow": ["column"], "NothingShown": [], "ShownTwice": ["column"], "NotKeyed": ["split"],
    "NotShown": ["row"], "KeyCell": ["column"], "NotPossible": ["names"], "OtherNames": [],
    "OtherView": [], "FixedColumn": ["column"], "MustShow": ["column"],
}
REFUSALS = {
    "WrongKind": ["kind"], "WrongLength": ["row"], "AlreadyShown": ["row"], "NoName": ["name"],
    "OutOfRegion": ["name", "value"], "NoDifference": ["value"], "InvalidSums": ["name"],
    "NotTotal": ["column"], "InvalidRule": ["part"], "NoRule": ["kind"], "NoMeaning": ["write"],
    "InvalidBook": ["name"], "BadLine": ["line", "reason"], "NoView": ["name"], "WrongStore": [],
    "NothingToUndo": [], "NothingToRedo": [], "Kept": ["name"], "NotKept": ["name"],
}
LISTED = [(module, name, fields) for module, names in ((errors, ERRORS), (refusals, REFUSALS))
          for name, fields in names.items()]
CLASSES = [getattr(module, name) for module, name, _ in LISTED]


def some_value(field):
    """A value that no other field has, for an error's argument."""
    return ("the", field)


class Errors(unittest.TestCase):
    def test_base_class(self):
        self.assertEqual(errors.ShownError.__bases__, (ValueError,))

    def test_direct_subclasses(self):
        for kind in CLASSES:
            self.assertEqual(kind.__bases__, (errors.ShownError,), kind)

    def test_objects_are_of_no_other_class(self):
        for (_, name, fields), kind in zip(LISTED, CLASSES):
            error = kind(*[some_value(field) for field in fields])
            self.assertIsInstance(error, errors.ShownError)
            self.assertIsInstance(error, ValueError)
            self.assertEqual([other.__name__ for other in CLASSES if isinstance(error, other)], [name])

    def test_defined_there(self):
        for module, name, _ in [(errors, "ShownError", []), *LISTED]:
            self.assertEqual(getattr(module, name).__module__, module.__name__, name)
            self.assertEqual(getattr(module, name).__name__, name)

    def test_no_other_class(self):
        for module, names in ((errors, ERRORS), (refusals, REFUSALS)):
            found = [name for name, value in vars(module).items() if isinstance(value, type)]
            self.assertEqual(sorted(found), sorted(["ShownError", *names]))

    def test_arguments_are_attributes(self):
        for (_, name, fields), kind in zip(LISTED, CLASSES):
            values = [object() for _ in fields]
            error = kind(*values)
            for field, value in zip(fields, values):
                self.assertIs(getattr(error, field), value, name)
            self.assertEqual(sorted(vars(error)), sorted(fields), name)

    def test_arguments_by_their_names(self):
        for (_, name, fields), kind in zip(LISTED, CLASSES):
            error = kind(**{field: some_value(field) for field in fields})
            self.assertEqual(vars(error), {field: some_value(field) for field in fields}, name)

    def test_any_values(self):
        for value in (None, 10 ** 5000, -(10 ** 5000), "", (), [1], {"a": 1}, ("a", (10 ** 5000,))):
            for (_, _, fields), kind in zip(LISTED, CLASSES):
                error = kind(*[value for _ in fields])
                for field in fields:
                    self.assertEqual(getattr(error, field), value)

    def test_number_of_arguments(self):
        for (_, _, fields), kind in zip(LISTED, CLASSES):
            if fields:
                with self.assertRaises(TypeError):
                    kind()

    def test_caught_as_their_base(self):
        for (_, _, fields), kind in zip(LISTED, CLASSES):
            with self.assertRaises(errors.ShownError):
                raise kind(*fields)


if __name__ == "__main__":
    unittest.main()
