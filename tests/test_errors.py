"""The head of the interface: all errors and their fields."""

from everyohm import errors
from helpers import FIELDS, JUNK, Case

FAMILIES = {
    "UseError": ("NotUsable", "TooMany"),
    "NetError": ("NoSuchName", "NameTwice", "StillUsed", "NotFlat"),
    "TextError": ("InvalidText", "Unended"),
    "LiveError": ("InvalidMove", "InvalidLine"),
}


class ErrorsTest(Case):
    def test_families(self):
        self.assertEqual(errors.OhmError.__bases__, (ValueError,))
        for family, names in FAMILIES.items():
            self.assertEqual(getattr(errors, family).__bases__, (errors.OhmError,))
            for name in names:
                self.assertEqual(getattr(errors, name).__bases__, (getattr(errors, family),))

    def test_fields_are_kept_as_they_are(self):
        for name, fields in FIELDS.items():
            made = getattr(errors, name)
            for thing in JUNK:
                error = made(*[thing for _ in fields])
                named = made(**{field: thing for field in fields})
                for field in fields:
                    self.assertIs(getattr(error, field), thing)
                    self.assertIs(getattr(named, field), thing)
                self.assertEqual(set(vars(error)), set(fields))

    def test_order_of_fields(self):
        for name, fields in FIELDS.items():
            error = getattr(errors, name)(*range(len(fields)))
            self.assertEqual([getattr(error, field) for field in fields], list(range(len(fields))))

    def test_exactly_its_fields(self):
        for name, fields in FIELDS.items():
            made = getattr(errors, name)
            for many in (len(fields) - 1, len(fields) + 1):
                with self.assertRaises(TypeError):
                    made(*range(many))

    def test_caught_as_value_errors(self):
        for name, fields in FIELDS.items():
            with self.assertRaises(ValueError):
                raise getattr(errors, name)(*fields)

    def test_families_are_made_without_fields(self):
        for family in list(FAMILIES) + ["OhmError"]:
            self.assertEqual(vars(getattr(errors, family)()), {})
