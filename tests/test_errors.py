"""Point [6]: the errors."""

import unittest

from copybooks import errors
from tests.samples import odd_values

PLAIN = (
    "NoMany", "NoStep", "NoKinds", "NoMost", "NoViews", "Undecided", "NoCache", "NoPick", "NoLines", "NoLine",
    "NoValue", "NoBack", "NoIndex", "NoRest", "NoPair", "NotRight", "NoBag",
)

FIELDS = {
    "NoBook": ("part", "index"),
    "NoRun": ("index",),
    "NoFamily": ("index",),
    "NoText": ("line",),
    "TooMany": ("most",),
}


class TestErrors(unittest.TestCase):

    def test_there_are_twenty_two(self):
        found = [name for name, value in vars(errors).items() if isinstance(value, type)]
        self.assertEqual(sorted(found), sorted([*PLAIN, *FIELDS, "CopyError"]))

    def test_copy_error_is_a_value_error(self):
        self.assertEqual(errors.CopyError.__bases__, (ValueError,))
        self.assertIsInstance(errors.CopyError(), ValueError)

    def test_each_stands_directly_under_copy_error(self):
        for name in [*PLAIN, *FIELDS]:
            one = getattr(errors, name)
            self.assertEqual(one.__bases__, (errors.CopyError,), name)
            self.assertTrue(issubclass(one, ValueError), name)
            for other in [*PLAIN, *FIELDS]:
                self.assertEqual(issubclass(one, getattr(errors, other)), name == other, (name, other))

    def test_plain_errors_are_made_without_arguments(self):
        for name in PLAIN:
            with self.assertRaises(errors.CopyError) as caught:
                raise getattr(errors, name)()
            self.assertEqual(type(caught.exception).__name__, name)

    def test_fields_keep_whatever_they_are_given_in_their_order(self):
        for name, fields in FIELDS.items():
            for value in odd_values():
                given = [(value, at) for at in range(len(fields))]
                error = getattr(errors, name)(*given)
                for field, kept in zip(fields, given):
                    self.assertIs(getattr(error, field), kept, (name, field))
            same = []
            self.assertIs(getattr(getattr(errors, name)(*[same] * len(fields)), fields[0]), same)

    def test_errors_with_fields_are_called_with_all_of_them(self):
        for name, fields in FIELDS.items():
            for many in range(4):
                if many != len(fields):
                    with self.assertRaises(TypeError):
                        getattr(errors, name)(*range(many))


if __name__ == "__main__":
    unittest.main()
