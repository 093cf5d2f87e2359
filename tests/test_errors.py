"""Point [3] and the list of error classes in the interface."""

import unittest

from everyfloor import errors

FIELDS = {
    "BadRow": ("index",), "BadUnder": ("under",), "BadPlace": ("n",), "NotWhole": ("n",), "BadNumber": ("number",),
    "NoDivisor": (), "BadTruth": ("index",), "NoMember": ("k",), "TooHigh": ("most",), "TooFine": ("most",),
    "TooLate": ("most",), "BadWhole": ("value",), "BadPower": ("k",), "Undefined": ("n",), "NoPieces": (),
    "BadPiece": ("index",), "BadBegin": (), "BadTest": (), "BadStep": (), "BadMember": ("index",),
    "TooFew": ("have", "want"), "NoFormula": ("n",), "NoValue": (), "NoBound": ("n",),
    "TooMany": ("what", "many", "most"), "BadText": ("at",), "BadName": ("name",), "UnknownName": ("name",),
    "Circle": ("name",), "Refused": ("name", "why"), "Broken": ("name", "n"), "InUse": ("name", "by"),
    "NoSteps": (), "BadLine": ("line", "why"),
}


class TestErrors(unittest.TestCase):

    def test_the_common_class_is_a_value_error(self):
        self.assertEqual(errors.EveryfloorError.__bases__, (ValueError,))

    def test_all_classes_are_there_and_no_others(self):
        found = [name for name, thing in vars(errors).items() if isinstance(thing, type)]
        self.assertEqual(sorted(found), sorted([*FIELDS, "EveryfloorError"]))

    def test_each_class_is_a_direct_subclass_in_this_file(self):
        for name in FIELDS:
            error_class = getattr(errors, name)
            self.assertEqual(error_class.__bases__, (errors.EveryfloorError,), name)
            self.assertEqual(error_class.__module__, "everyfloor.errors", name)

    def test_fields_by_position_are_kept_as_attributes(self):
        for name, fields in FIELDS.items():
            values = [object() for _ in fields]
            error = getattr(errors, name)(*values)
            self.assertEqual(list(vars(error)), list(fields), name)
            for field, value in zip(fields, values):
                self.assertIs(getattr(error, field), value, name)

    def test_fields_may_be_any_values(self):
        for value in (10 ** 5000, None, True, [1], {}, "", errors.BadText(3), ValueError):
            for name, fields in FIELDS.items():
                error = getattr(errors, name)(*[value for _ in fields])
                for field in fields:
                    self.assertIs(getattr(error, field), value, name)

    def test_a_wrong_number_of_fields_is_refused(self):
        for name, fields in FIELDS.items():
            if fields:
                with self.assertRaises(TypeError, msg=name):
                    getattr(errors, name)()
                with self.assertRaises(TypeError, msg=name):
                    getattr(errors, name)(*fields, 1)

    def test_an_error_is_caught_by_the_common_class_and_as_a_value_error(self):
        for caught in (errors.EveryfloorError, ValueError):
            with self.assertRaises(caught):
                raise errors.TooFew(1, 2)


if __name__ == "__main__":
    unittest.main()
