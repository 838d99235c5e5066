"""Promise 7: the refusals."""

import unittest

from stepforms import errors
from tests.helper import ODD_THINGS, Case

FIELDS = {
    "NoDeed": ("number",),
    "NoText": ("row", "word"),
    "NoPaper": ("word", "number"),
    "NoBack": ("corner",),
    "NoRow": ("number",),
    "NoLine": ("line",),
}


class Refusals(Case):
    def test_each_keeps_the_very_things_by_name(self):
        for name, fields in FIELDS.items():
            refusal = getattr(errors, name)
            for thing in ODD_THINGS:
                things = [thing] + [[thing]] * (len(fields) - 1)
                made = refusal(*things)
                for field, kept in zip(fields, things):
                    self.assertIs(getattr(made, field), kept)

    def test_fields_stand_in_the_told_order(self):
        self.assertEqual((errors.NoText(1, 2).row, errors.NoText(1, 2).word), (1, 2))
        self.assertEqual((errors.NoPaper("form", 2).word, errors.NoPaper("form", 2).number), ("form", 2))

    def test_a_kept_list_is_not_copied(self):
        kept = [1, [2]]
        made = errors.NoRow(kept)
        kept.append(3)
        self.assertEqual(made.number, [1, [2], 3])

    def test_things_that_cannot_be_looked_at_are_kept(self):
        class Shy:
            def __eq__(self, other):
                raise AssertionError("looked at")

            __repr__ = __str__ = __hash__ = __bool__ = __len__ = __iter__ = __eq__

        shy = Shy()
        self.assertIs(errors.NoLine(shy).line, shy)
        self.assertIs(errors.NoBack(shy).corner, shy)

    def test_each_is_made_of_just_its_fields(self):
        for name, fields in FIELDS.items():
            refusal = getattr(errors, name)
            with self.assertRaises(TypeError):
                refusal(*[0] * (len(fields) - 1))
            with self.assertRaises(TypeError):
                refusal(*[0] * (len(fields) + 1))

    def test_each_stands_straight_under_the_base(self):
        self.assertEqual(errors.FormError.__bases__, (ValueError,))
        for name in FIELDS:
            self.assertEqual(getattr(errors, name).__bases__, (errors.FormError,))

    def test_each_is_raised_and_caught_by_its_own_name(self):
        for name, fields in FIELDS.items():
            refusal = getattr(errors, name)
            for caught in (refusal, errors.FormError, ValueError):
                with self.assertRaises(caught):
                    raise refusal(*fields)
            for other in FIELDS:
                if other != name:
                    self.assertFalse(issubclass(refusal, getattr(errors, other)))


if __name__ == "__main__":
    unittest.main()
