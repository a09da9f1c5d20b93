"""The refusals: their fields, and what they are under."""

import unittest

from seekways import errors

FIELDS = {
    "BadTask": ("place",),
    "Broken": ("saying", "standing", "other"),
    "TooWide": ("most",),
    "TooMany": ("most",),
    "BadWay": ("word",),
    "BadNumber": ("number",),
    "BadHint": (),
    "BadSteps": (),
    "BadPaper": (),
    "BadWritten": (),
    "BadEdit": (),
    "NoText": ("row",),
    "NoRow": ("row",),
    "NoName": (),
}


class Errors(unittest.TestCase):
    def test_each_is_made_of_its_fields_in_order_and_bears_them(self):
        for name, fields in FIELDS.items():
            for worths in ([("cells",), (0,), None], ["a", 400, ()], [7, [1], {}]):
                error = getattr(errors, name)(*worths[:len(fields)])
                for field, worth in zip(fields, worths):
                    self.assertEqual(getattr(error, field), worth, (name, field))

    def test_each_takes_just_its_fields(self):
        for name, fields in FIELDS.items():
            if fields:
                with self.assertRaises(TypeError):
                    getattr(errors, name)(*range(len(fields) + 1))
                with self.assertRaises(TypeError):
                    getattr(errors, name)(*range(len(fields) - 1))

    def test_each_is_a_seek_error_and_a_value_error(self):
        self.assertTrue(issubclass(errors.SeekError, ValueError))
        for name in FIELDS:
            self.assertTrue(issubclass(getattr(errors, name), errors.SeekError), name)

    def test_none_is_under_another(self):
        for name in FIELDS:
            for other in FIELDS:
                if name != other:
                    self.assertFalse(issubclass(getattr(errors, name), getattr(errors, other)), (name, other))

    def test_each_is_defined_there(self):
        for name in [*FIELDS, "SeekError"]:
            self.assertEqual(getattr(errors, name).__module__, "seekways.errors")


if __name__ == "__main__":
    unittest.main()
