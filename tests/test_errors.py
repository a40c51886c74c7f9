"""The refusals [3]."""

import unittest

from passersby import errors

FIELDS = {
    "NoText": ("row", "word"),
    "NoMeeting": ("place",),
    "NoPaper": ("word", "number"),
    "TooMany": (),
    "NoLine": ("line",),
    "NoRule": (),
    "NoCrowd": (),
}


class Refusals(unittest.TestCase):
    def test_each_keeps_its_fields_in_order(self):
        for name, fields in FIELDS.items():
            values = ["value %d" % k for k in range(len(fields))]
            refusal = getattr(errors, name)(*values)
            self.assertEqual([getattr(refusal, field) for field in fields], values, name)

    def test_each_is_made_of_just_its_fields(self):
        for name, fields in FIELDS.items():
            kind = getattr(errors, name)
            with self.assertRaises(TypeError):
                kind(*range(len(fields) + 1))
            if fields:
                with self.assertRaises(TypeError):
                    kind(*range(len(fields) - 1))

    def test_each_is_taken_by_the_base_and_by_no_other(self):
        for name, fields in FIELDS.items():
            refusal = getattr(errors, name)(*range(len(fields)))
            for taker in (errors.PassError, ValueError):
                with self.assertRaises(taker):
                    raise refusal
            for other in FIELDS:
                self.assertEqual(isinstance(refusal, getattr(errors, other)), other == name)

    def test_the_base(self):
        self.assertEqual(errors.PassError.__bases__, (ValueError,))
        for name in FIELDS:
            self.assertEqual(getattr(errors, name).__bases__, (errors.PassError,))
