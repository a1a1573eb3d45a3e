"""The section likerun/errors.py of the interface, points 31 and 76."""

import unittest

from likerun import errors

PLACED = ("BadSign", "BadToken", "BadIndent", "TooLong", "TooDeep", "BadSyntax", "BadScope")
SINGLE = (
    ("BadOption", "option"), ("BadCode", "unit"), ("BadPaper", "paper"),
    ("UnknownPass", "word"), ("BadLevel", "level"),
)


class TestErrors(unittest.TestCase):

    def test_base(self):
        self.assertEqual(errors.LikerunError.__bases__, (ValueError,))

    def test_source_errors(self):
        self.assertEqual(errors.SourceError.__bases__, (errors.LikerunError,))
        for word in PLACED:
            kind = getattr(errors, word)
            self.assertEqual(kind.__bases__, (errors.SourceError,), word)
            error = kind(3, 14)
            self.assertEqual(vars(error), {"line": 3, "column": 14}, word)
        self.assertEqual(vars(errors.SourceError(1, 2)), {"line": 1, "column": 2})
        for wrong in ((), (1,), (1, 2, 3)):
            with self.assertRaises(TypeError):
                errors.SourceError(*wrong)

    def test_errors_with_one_attribute(self):
        for word, attribute in SINGLE:
            kind = getattr(errors, word)
            self.assertEqual(kind.__bases__, (errors.LikerunError,), word)
            value = ("some", "value")
            error = kind(value)
            self.assertEqual(vars(error), {attribute: value}, word)
            self.assertIs(getattr(error, attribute), value)
            for wrong in ((), (1, 2)):
                with self.assertRaises(TypeError):
                    kind(*wrong)

    def test_errors_without_attributes(self):
        for word in ("BadDatum", "BadSave"):
            kind = getattr(errors, word)
            self.assertEqual(kind.__bases__, (errors.LikerunError,), word)
            self.assertEqual(vars(kind()), {}, word)

    def test_fault(self):
        self.assertEqual(errors.Fault.__bases__, (Exception,))
        fault = errors.Fault("KeyError", ("number", 1))
        self.assertEqual(vars(fault), {"name": "KeyError", "value": ("number", 1)})
        with self.assertRaises(TypeError):
            errors.Fault("KeyError")

    def test_machine_fault(self):
        self.assertEqual(errors.MachineFault.__bases__, (Exception,))
        self.assertEqual(vars(errors.MachineFault()), {})

    def test_each_is_defined_in_the_file(self):
        words = PLACED + tuple(row[0] for row in SINGLE)
        words += ("LikerunError", "SourceError", "BadDatum", "BadSave", "Fault", "MachineFault")
        for word in words:
            self.assertEqual(getattr(errors, word).__module__, "likerun.errors")
