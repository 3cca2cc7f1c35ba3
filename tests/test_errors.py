"""Point 3 and the interface's section on errors."""

import unittest

from sunstore.errors import NoFraction, NoKeeper, NoLine, NoPrices, NoText, StoreError

REFUSALS = [
    (NoFraction, "top", 7),
    (NoFraction, "top", (-3, 4)),
    (NoText, "place", 0),
    (NoText, "place", 12),
    (NoPrices, "hour", 23),
    (NoKeeper, "name", "anna"),
    (NoLine, "line", "no such line"),
]
CLASSES = [NoFraction, NoText, NoPrices, NoKeeper, NoLine]


class Refusals(unittest.TestCase):
    def test_base_is_a_value_error(self):
        self.assertTrue(issubclass(StoreError, ValueError))

    def test_each_stands_under_the_base(self):
        for refusal in CLASSES:
            with self.subTest(refusal=refusal.__name__):
                self.assertTrue(issubclass(refusal, StoreError))
                self.assertTrue(issubclass(refusal, ValueError))
                self.assertIsNot(refusal, StoreError)

    def test_none_stands_under_another(self):
        for one in CLASSES:
            for other in CLASSES:
                if one is not other:
                    with self.subTest(one=one.__name__, other=other.__name__):
                        self.assertFalse(issubclass(one, other))

    def test_each_has_its_field(self):
        for refusal, field, value in REFUSALS:
            with self.subTest(refusal=refusal.__name__, value=value):
                self.assertEqual(getattr(refusal(value), field), value)
                self.assertEqual(getattr(refusal(**{field: value}), field), value)

    def test_fields_are_each_object_s_own(self):
        first = NoText(1)
        second = NoText(2)
        self.assertEqual((first.place, second.place), (1, 2))

    def test_each_is_taken_by_its_base(self):
        for refusal, field, value in REFUSALS:
            with self.subTest(refusal=refusal.__name__, value=value):
                with self.assertRaises(StoreError) as taken:
                    raise refusal(value)
                self.assertIs(type(taken.exception), refusal)
                self.assertEqual(getattr(taken.exception, field), value)

    def test_a_refusal_of_a_great_number_can_be_shown(self):
        great = 10 ** 5000
        for top in (great, (great, 3)):
            self.assertIsInstance(str(NoFraction(top)), str)
            self.assertIsInstance(repr(NoFraction(top)), str)


if __name__ == "__main__":
    unittest.main()
