import unittest

import toldwithin.errors as errors

FIELDS = {
    "NoRatio": ("word",),
    "NoGrid": ("word",),
    "NoCell": (),
    "NoWish": ("place", "word"),
    "NoAxis": (),
    "NoQuestion": ("word",),
    "NoAmounts": (),
    "OtherGrid": (),
    "NoExpression": ("word",),
    "BadText": ("place",),
    "NoMeaning": ("word",),
    "NoEntry": ("word",),
    "NoBook": ("word",),
    "SameTime": ("time",),
    "SameName": ("name",),
    "TooMany": ("most",),
    "NoName": ("name",),
    "NoTime": (),
    "NoHistory": (),
    "NoWeights": (),
    "NoSide": (),
    "NoNumber": (),
    "Clash": (),
    "Endless": (),
    "NoCount": (),
    "NoOffer": ("word",),
    "NoGoal": ("word",),
    "NoOffers": ("place",),
    "NoChoice": (),
    "NoGoals": ("place",),
    "NoUndo": (),
    "NoRedo": (),
    "NoNames": (),
    "NoQuestions": ("place",),
    "NoLine": (),
    "Conflicted": ("kind", "what"),
    "BadLine": ("place", "word"),
}


class ErrorsTest(unittest.TestCase):
    def test_told_error_stands_under_value_error(self):
        self.assertEqual(errors.ToldError.__bases__, (ValueError,))
        self.assertEqual(errors.ToldError().told(), "refused tolderror")

    def test_each_class_stands_directly_under_told_error(self):
        for name in FIELDS:
            with self.subTest(name):
                self.assertEqual(getattr(errors, name).__bases__, (errors.ToldError,))

    def test_each_class_is_defined_in_the_module(self):
        for name in ["ToldError", *FIELDS]:
            with self.subTest(name):
                self.assertEqual(getattr(errors, name).__module__, "toldwithin.errors")
                self.assertEqual(getattr(errors, name).__name__, name)

    def test_fields_in_the_order_of_the_arguments(self):
        for name, fields in FIELDS.items():
            with self.subTest(name):
                told = [7, "word"][: len(fields)]
                error = getattr(errors, name)(*told)
                self.assertEqual([getattr(error, field) for field in fields], told)

    def test_fields_keep_what_they_are_given(self):
        self.assertEqual(errors.BadText(-1).place, -1)
        self.assertEqual(errors.NoName(None).name, None)
        self.assertEqual(errors.Conflicted("time", 2).what, 2)

    def test_told_tells_the_name_in_lowercase(self):
        for name, fields in FIELDS.items():
            with self.subTest(name):
                error = getattr(errors, name)(*[7, "word"][: len(fields)])
                self.assertEqual(error.told(), "refused " + name.lower())

    def test_each_class_defines_told_itself(self):
        for name in ["ToldError", *FIELDS]:
            with self.subTest(name):
                self.assertIn("told", vars(getattr(errors, name)))

    def test_each_one_is_caught_by_its_own_name_and_by_no_other(self):
        for name, fields in FIELDS.items():
            with self.subTest(name):
                error = getattr(errors, name)(*[7, "word"][: len(fields)])
                caught = [other for other in FIELDS if isinstance(error, getattr(errors, other))]
                self.assertEqual(caught, [name])
                with self.assertRaises(ValueError):
                    raise error


if __name__ == "__main__":
    unittest.main()
