"""Point 1 and the section shownwrites/errors.py."""

import unittest

from shownwrites import errors

LISTED = {
    "NoTable": ["name"], "NoColumn": ["column"], "BadName": ["name"], "DuplicateName": ["name"],
    "DuplicateTable": ["name"], "BadCount": ["count"], "BadSign": ["sign"], "TooFew": ["count"],
    "InvalidTable": ["name"], "InvalidRow": ["name", "row"], "DuplicateKey": ["name", "key"],
    "InvalidChange": ["change"], "SamePlace": ["place"], "Clash": ["place"], "NoChange": ["place"],
    "Misfit": ["place"], "Unlike": ["name"], "SameTable": ["name"], "Empty": ["column"],
    "Narrow": ["column"], "NothingShown": [], "ShownTwice": ["column"], "NotKeyed": ["split"],
    "NotShown": ["row"], "KeyCell": ["column"], "NotPossible": ["names"], "OtherNames": [],
    "OtherView": [], "FixedColumn": ["column"], "MustShow": ["column"],
}


class Errors(unittest.TestCase):
    def test_base_class(self):
        self.assertEqual(errors.ShownError.__bases__, (ValueError,))

    def test_direct_subclasses(self):
        for name in LISTED:
            self.assertEqual(getattr(errors, name).__bases__, (errors.ShownError,), name)

    def test_defined_there(self):
        for name in ["ShownError", *LISTED]:
            self.assertEqual(getattr(errors, name).__module__, "shownwrites.errors", name)
            self.assertEqual(getattr(errors, name).__name__, name)

    def test_no_other_class(self):
        found = [name for name, value in vars(errors).items() if isinstance(value, type)]
        self.assertEqual(sorted(found), sorted(["ShownError", *LISTED]))

    def test_arguments_are_attributes(self):
        for name, fields in LISTED.items():
            values = [object() for _ in fields]
            error = getattr(errors, name)(*values)
            for field, value in zip(fields, values):
                self.assertIs(getattr(error, field), value, name)
            self.assertEqual(sorted(vars(error)), sorted(fields), name)

    def test_any_values(self):
        for value in (None, 10 ** 5000, -(10 ** 5000), "", (), [1], {"a": 1}, ("a", (10 ** 5000,))):
            for name, fields in LISTED.items():
                error = getattr(errors, name)(*[value for _ in fields])
                for field in fields:
                    self.assertEqual(getattr(error, field), value)

    def test_number_of_arguments(self):
        for name, fields in LISTED.items():
            if fields:
                with self.assertRaises(TypeError):
                    getattr(errors, name)()

    def test_caught_as_their_base(self):
        for name, fields in LISTED.items():
            with self.assertRaises(errors.ShownError):
                raise getattr(errors, name)(*fields)


if __name__ == "__main__":
    unittest.main()
