"""The error classes of the interface."""

import unittest

from neveralone import errors

FIELDS = {
    "BadBook": ("fault", "at"), "BadChain": ("fault", "at"), "Mismatch": ("fault",),
    "NotEven": ("at", "face"), "NotTwoEach": ("face",), "BadFamily": ("fault", "at"),
    "BadRule": ("fault", "face"), "NotARoom": ("room",), "NotAPartition": ("fault",),
    "NoSigns": ("ring",), "NotSigned": ("at",), "TooMany": ("what", "bound"),
    "BadText": ("line", "fault"), "BadPaper": ("step", "fault"), "BadLabels": ("fault", "at"),
    "BadBounds": ("fault", "at"), "Unbounded": ("direction",), "Tied": ("tight",),
    "BadTable": ("fault", "row", "column"), "BadOrders": ("fault", "at"),
    "BadParties": ("fault", "at"), "BadWeb": ("fault", "at"), "BadDeed": ("fault",),
}


class Errors(unittest.TestCase):
    def test_fields_stand_in_the_order_of_the_arguments(self):
        for name, fields in FIELDS.items():
            told = [f"value {k}" for k in range(len(fields))]
            error = getattr(errors, name)(*told)
            self.assertEqual([getattr(error, field) for field in fields], told, name)

    def test_each_error_needs_all_of_its_fields(self):
        for name, fields in FIELDS.items():
            for many in (len(fields) - 1, len(fields) + 1):
                with self.assertRaises(TypeError, msg=name):
                    getattr(errors, name)(*range(many))

    def test_each_error_is_a_direct_subclass_of_the_base(self):
        self.assertEqual(errors.NeverAloneError.__bases__, (ValueError,))
        for name in FIELDS:
            self.assertEqual(getattr(errors, name).__bases__, (errors.NeverAloneError,))

    def test_there_are_no_other_errors(self):
        found = {name for name, value in vars(errors).items() if isinstance(value, type)}
        self.assertEqual(found, set(FIELDS) | {"NeverAloneError"})
