"""The errors: their families and their fields."""

import unittest

from stoodthere import errors

FAMILIES = {
    "PaperError": {"InvalidPaper": ("word", "at")},
    "UseError": {"NotUsable": ("word", "at")},
    "LiveError": {
        "Stands": ("tree",), "NotThere": ("tree",), "InvalidEvent": ("event", "reason"), "NothingToUndo": ("steps",),
    },
    "TalkError": {"Ended": ("answer",), "NotAsked": ("answer",), "Taken": ("answer",), "AtOdds": ("answer",)},
    "TextError": {"InvalidText": ("line", "at")},
}


class TestErrors(unittest.TestCase):

    def each_error(self):
        for family, members in FAMILIES.items():
            for name, fields in members.items():
                yield getattr(errors, family), getattr(errors, name), fields

    def test_families(self):
        self.assertEqual(errors.StoodError.__bases__, (ValueError,))
        for family in FAMILIES:
            self.assertEqual(getattr(errors, family).__bases__, (errors.StoodError,))

    def test_each_error_derives_from_its_family_alone(self):
        seen = [error for _, error, _ in self.each_error()]
        self.assertEqual(len(seen), 11)
        for family, error, _ in self.each_error():
            self.assertEqual(error.__bases__, (family,))
            self.assertEqual(error.__module__, "stoodthere.errors")

    def test_fields_are_the_very_objects(self):
        for _, error, fields in self.each_error():
            for values in (([1], [["a"], 0]), (None, True), ((1, [2]), ()), ("x", 10 ** 59)):
                values = values[:len(fields)]
                for raised in (error(*values), error(**dict(zip(fields, values)))):
                    self.assertEqual(sorted(vars(raised)), sorted(fields))
                    for field, value in zip(fields, values):
                        self.assertIs(getattr(raised, field), value)

    def test_they_are_raised_and_caught_by_family(self):
        for family, error, fields in self.each_error():
            for base in (error, family, errors.StoodError, ValueError):
                with self.assertRaises(base):
                    raise error(*([None] * len(fields)))

    def test_families_are_apart(self):
        for family, error, _ in self.each_error():
            for other in FAMILIES:
                self.assertEqual(issubclass(error, getattr(errors, other)), getattr(errors, other) is family)


if __name__ == "__main__":
    unittest.main()
