import unittest

from pagebureau.base import errors

FIELDS = {
    "BadMarks": ("given",), "BadRow": ("place",), "NoRow": ("place",), "BadText": ("at",),
    "BadFrac": ("given",), "ZeroBottom": (), "BadVector": ("size",), "TooLarge": ("many",),
    "EmptyPage": (), "BadLine": ("at",), "Clash": ("first", "second"), "BadOrder": ("at",),
    "NoPage": ("number",),
    "BadTerm": ("place",), "BadManner": ("given",),
    "BadStep": ("at",),
    "NoMark": ("mark",), "BadAmount": ("mark", "amount"), "BadDivisor": (),
    "BadGrid": ("at",), "BadStore": ("given",), "BadRequest": ("place",), "BadPlan": ("option",),
    "BadPromise": ("given",),
    "BadFactor": ("given",), "BadFigure": ("given",), "NoStep": ("at",), "NotStraight": ("at",),
    "NotPlain": ("at",), "NotFree": ("mark",), "BadWay": ("given",), "BadBounds": ("low", "high"),
    "NoName": ("name",), "SameName": ("name",), "NoService": ("name",), "ManyGaps": ("many",),
    "BadDay": ("given",), "BadDeed": ("at",), "Refused": ("at",), "NothingToUndo": (),
    "Untrue": ("part", "at"),
}


class ErrorsTest(unittest.TestCase):
    def test_the_base_is_a_value_error(self):
        self.assertEqual((ValueError,), errors.BureauError.__bases__)

    def test_there_are_no_other_errors(self):
        classes = [name for name, thing in vars(errors).items() if isinstance(thing, type)]
        self.assertEqual(sorted(["BureauError", *FIELDS]), sorted(classes))

    def test_each_derives_directly_from_the_base(self):
        for name in FIELDS:
            with self.subTest(name=name):
                self.assertEqual((errors.BureauError,), getattr(errors, name).__bases__)

    def test_each_is_made_with_its_fields_by_position(self):
        for name, fields in FIELDS.items():
            for kind in (str, lambda place: (place, 0, 1), lambda place: 10 ** 5000 + place):
                with self.subTest(name=name):
                    values = [kind(place) for place in range(len(fields))]
                    error = getattr(errors, name)(*values)
                    self.assertEqual(dict(zip(fields, values)), vars(error))
                    self.assertIsInstance(str(error), str)

    def test_each_takes_no_more_and_no_fewer_fields(self):
        for name, fields in FIELDS.items():
            with self.subTest(name=name):
                with self.assertRaises(TypeError):
                    getattr(errors, name)(*fields, 0)
                if fields:
                    with self.assertRaises(TypeError):
                        getattr(errors, name)(*fields[1:])

    def test_each_is_caught_as_the_base_and_as_a_value_error(self):
        for name, fields in FIELDS.items():
            for base in (errors.BureauError, ValueError):
                with self.subTest(name=name), self.assertRaises(base):
                    raise getattr(errors, name)(*fields)


if __name__ == "__main__":
    unittest.main()
