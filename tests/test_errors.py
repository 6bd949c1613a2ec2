import unittest

from smallcourt import errors

ATTRIBUTES = {
    "InvalidFacts": ("index",), "InvalidCase": ("index",), "InvalidNumber": (), "InvalidCondition": ("part", "index"),
    "NeverMet": (), "InvalidRule": ("part",), "InvalidBook": ("word", "index"), "UnknownRule": (),
    "InvalidRuling": (), "UnknownFact": (), "NoReason": (), "TooMany": (), "InvalidChance": ("fact",),
    "OtherFacts": (), "NoNeighbor": (), "NoFacts": (), "AlreadyKnown": (), "InvalidAmendment": (),
    "InvalidStatute": ("index",), "InvalidDay": (), "InvalidSpan": ("rule_name",),
    "InvalidDocket": ("part", "index"), "UnknownLabel": (), "InvalidLabel": (), "InvalidOperation": ("index",),
    "Contradiction": (), "InvalidExample": ("index",), "NotWritable": ("index",), "InvalidText": ("row", "word"),
    "DecodeError": ("offset",), "DaybookError": ("row", "word"),
}


class ErrorsTest(unittest.TestCase):
    def test_base_class(self):
        self.assertEqual(errors.CourtError.__bases__, (ValueError,))

    def test_all_are_direct_subclasses(self):
        for name in ATTRIBUTES:
            with self.subTest(name):
                self.assertEqual(getattr(errors, name).__bases__, (errors.CourtError,))

    def test_no_others(self):
        found = [name for name, value in vars(errors).items() if isinstance(value, type)]
        self.assertEqual(sorted(found), sorted([*ATTRIBUTES, "CourtError"]))

    def test_attributes_by_position_and_by_name(self):
        for name, attributes in ATTRIBUTES.items():
            values = {attribute: 10 + place for place, attribute in enumerate(attributes)}
            made = getattr(errors, name)(*values.values())
            named = getattr(errors, name)(**values)
            with self.subTest(name):
                self.assertEqual([getattr(made, attribute) for attribute in attributes], list(values.values()))
                self.assertEqual([getattr(named, attribute) for attribute in attributes], list(values.values()))
                self.assertIsInstance(str(made), str)

    def test_attributes_of_any_kind(self):
        self.assertEqual(errors.InvalidChance("late").fact, "late")
        self.assertEqual(errors.InvalidSpan("mild").rule_name, "mild")
        self.assertEqual(errors.InvalidDocket("books", 3).part, "books")
        self.assertEqual(errors.InvalidBook("ruling", -1).index, -1)


if __name__ == "__main__":
    unittest.main()
