import unittest

from cardsback import errors
from cardsback.errors import CardsError

FIELDS = {
    "NoPaper": ("word", "path"),
    "NoHouse": ("name",),
    "NoPage": ("page",),
    "NoCrowd": ("names",),
    "NoOrder": ("ring",),
    "NoDue": ("due",),
    "TooMany": ("word",),
    "NoBack": (),
    "NoText": ("row", "word"),
    "NoRow": ("row",),
}


class ErrorsTest(unittest.TestCase):
    def test_base_is_straight_under_value_error(self):
        self.assertEqual(CardsError.__bases__, (ValueError,))

    def test_each_is_straight_under_the_base(self):
        for name in FIELDS:
            self.assertEqual(getattr(errors, name).__bases__, (CardsError,), name)

    def test_there_are_just_these(self):
        classes = [name for name, thing in vars(errors).items() if isinstance(thing, type)]
        self.assertEqual(sorted(classes), sorted(list(FIELDS) + ["CardsError"]))

    def test_each_keeps_the_very_things_by_its_names(self):
        for name, fields in FIELDS.items():
            things = [["thing", k] for k in range(len(fields))]
            error = getattr(errors, name)(*things)
            self.assertEqual(sorted(vars(error)), sorted(fields), name)
            for field, thing in zip(fields, things):
                self.assertIs(getattr(error, field), thing, name)

    def test_fields_are_not_looked_at(self):
        for thing in (None, True, 10 ** 6000, {}, [[]], "~" * 4000):
            self.assertIs(errors.NoHouse(thing).name, thing)
            self.assertIs(errors.NoPaper(thing, thing).path, thing)
            self.assertIs(errors.NoText(thing, 0).row, thing)

    def test_each_is_made_of_just_its_fields(self):
        for name, fields in FIELDS.items():
            if fields:
                with self.assertRaises(TypeError):
                    getattr(errors, name)(*fields[1:])
                with self.assertRaises(TypeError):
                    getattr(errors, name)(*fields, "more")

    def test_each_is_caught_as_any_refusal(self):
        for name, fields in FIELDS.items():
            with self.assertRaises(CardsError):
                raise getattr(errors, name)(*fields)


if __name__ == "__main__":
    unittest.main()
