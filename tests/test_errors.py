"""The errors: their base classes and their fields."""

import unittest

from settingsmerge import errors

ERRORS = [
    ("BadText", ValueError, ("line", "kind")),
    ("BadEdit", ValueError, ("line", "kind")),
    ("NoHistory", ValueError, ("at", "kind")),
    ("BadAnswer", ValueError, ("answer",)),
    ("BadCommand", ValueError, ("command",)),
    ("NoPlace", LookupError, ("place",)),
    ("NoSlot", LookupError, ("slot",)),
    ("NoChain", LookupError, ("slot", "other")),
    ("NoRelease", IndexError, ("release",)),
    ("Unanswered", RuntimeError, ("claim",)),
    ("Settled", RuntimeError, ()),
    ("NotOwn", RuntimeError, ("slot",)),
    ("HasExclusions", RuntimeError, ()),
    ("NoDeed", RuntimeError, ()),
    ("Excluded", ArithmeticError, ("slot", "other")),
    ("TooMany", OverflowError, ("limit",)),
    ("NoRule", TypeError, ("word",)),
]


class ErrorsTest(unittest.TestCase):
    def test_there_are_just_these_classes(self):
        found = sorted(name for name, thing in vars(errors).items() if isinstance(thing, type))
        self.assertEqual(found, sorted(name for name, base, fields in ERRORS))
        self.assertEqual(len(found), 17)

    def test_base_is_the_class_named_and_no_other_of_the_package(self):
        classes = [getattr(errors, name) for name, base, fields in ERRORS]
        for name, base, fields in ERRORS:
            error = getattr(errors, name)
            with self.subTest(name):
                self.assertEqual(error.__bases__, (base,))
                self.assertEqual([other for other in classes if issubclass(error, other)], [error])

    def test_fields_by_position(self):
        for name, base, fields in ERRORS:
            with self.subTest(name):
                values = [["first"], ["second"]][:len(fields)]
                error = getattr(errors, name)(*values)
                for field, value in zip(fields, values):
                    self.assertIs(getattr(error, field), value)

    def test_fields_by_name(self):
        for name, base, fields in ERRORS:
            with self.subTest(name):
                values = {field: [field] for field in fields}
                error = getattr(errors, name)(**values)
                for field in fields:
                    self.assertIs(getattr(error, field), values[field])

    def test_there_are_no_other_fields(self):
        for name, base, fields in ERRORS:
            with self.subTest(name):
                self.assertEqual(sorted(vars(getattr(errors, name)(*fields))), sorted(fields))

    def test_no_field_may_be_left_out(self):
        for name, base, fields in ERRORS:
            if fields:
                with self.subTest(name), self.assertRaises(TypeError) as caught:
                    getattr(errors, name)(*fields[1:])
                self.assertIs(type(caught.exception), TypeError)

    def test_they_are_raised_and_caught(self):
        for name, base, fields in ERRORS:
            with self.subTest(name), self.assertRaises(base) as caught:
                raise getattr(errors, name)(*fields)
            self.assertIs(type(caught.exception), getattr(errors, name))


if __name__ == "__main__":
    unittest.main()
