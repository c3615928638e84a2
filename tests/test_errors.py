import unittest

from rainparcels import errors

NAMES = ["NoYard", "BadPlaces", "BadValue", "BadText", "NoParcel", "Full", "IsOut", "NotOut"]


class Errors(unittest.TestCase):

    def test_rain_error_is_directly_a_value_error(self):
        self.assertEqual(errors.RainError.__bases__, (ValueError,))

    def test_each_class_is_directly_under_rain_error(self):
        for name in NAMES:
            with self.subTest(name=name):
                self.assertEqual(getattr(errors, name).__bases__, (errors.RainError,))

    def test_none_is_under_another(self):
        for name in NAMES:
            for other in NAMES:
                if name != other:
                    with self.subTest(name=name, other=other):
                        self.assertFalse(issubclass(getattr(errors, name), getattr(errors, other)))

    def test_each_is_defined_there_under_its_own_name(self):
        for name in NAMES + ["RainError"]:
            with self.subTest(name=name):
                found = getattr(errors, name)
                self.assertEqual(found.__name__, name)
                self.assertEqual(found.__module__, "rainparcels.errors")

    def test_each_can_be_raised_with_a_word(self):
        for name in NAMES + ["RainError"]:
            with self.subTest(name=name):
                with self.assertRaises(errors.RainError) as caught:
                    raise getattr(errors, name)("why")
                self.assertEqual(str(caught.exception), "why")


if __name__ == "__main__":
    unittest.main()
