"""Points 5 and 6: fractions made, reckoned with, compared, written and read."""

import fractions
import math
import unittest

from samples import pair
from sunstore.errors import NoFraction, StoreError
from sunstore.fractions import fraction, minus, over, plus, read_fraction, times, under, written

SMALL = [1, 2, 3, 4, 6, 7, 12, 30]
MIDDLE = [999983, 10 ** 6 - 1, 10 ** 6, 720720]
OF_43_FIGURES = [7 ** 50, 10 ** 42, 10 ** 43 - 1, 2 ** 20 * 3 ** 20 * 10 ** 27]
OF_360_FIGURES = [3 ** 753, 10 ** 359, 10 ** 360 - 1, 6 ** 100 * 10 ** 282 + 6 ** 100]
ABOVE_NOUGHT = SMALL + MIDDLE + OF_43_FIGURES + OF_360_FIGURES
NUMBERS = [0] + ABOVE_NOUGHT + [-number for number in ABOVE_NOUGHT]

FEW = [0, 1, -1, 2, -6, 30, 999983, -720720, 7 ** 50, -(10 ** 42), 3 ** 753, 6 - 10 ** 360]


def some_fractions():
    """Fractions of all sizes and both signs, each once, with ones that are nearly like."""
    made = {}
    for top in FEW:
        for bottom in FEW:
            if bottom != 0:
                made[fractions.Fraction(top, bottom)] = True
    for great in (5, 10 ** 6, 10 ** 42, 10 ** 359):
        for near in (-1, 0, 1):
            made[fractions.Fraction(great + near, great)] = True
            made[fractions.Fraction(-great, great * 3 + near)] = True
    return list(made)


SOME = some_fractions()


class Sizes(unittest.TestCase):
    def test_the_great_numbers_have_the_figures_they_are_to_have(self):
        self.assertEqual({len(str(number)) for number in OF_43_FIGURES}, {43})
        self.assertEqual({len(str(number)) for number in OF_360_FIGURES}, {360})


class Fractions(unittest.TestCase):
    def hold(self, told, asked):
        """told is the asked fraction, in lowest terms, of just the kinds of the interface."""
        self.assertEqual(told, pair(asked))
        self.assertIs(type(told), tuple)
        self.assertEqual([type(number) for number in told], [int, int])

    def test_made_by_hand(self):
        for top, bottom, asked in [
            (0, 1, (0, 1)), (0, 7, (0, 1)), (0, -7, (0, 1)), (2, 4, (1, 2)), (-2, 4, (-1, 2)),
            (2, -4, (-1, 2)), (-2, -4, (1, 2)), (6, 3, (2, 1)), (6, -3, (-2, 1)), (3, 7, (3, 7)),
            (5, 5, (1, 1)), (-5, 5, (-1, 1)), (1, 10 ** 6, (1, 10 ** 6)), (10 ** 6, 64, (15625, 1)),
        ]:
            with self.subTest(top=top, bottom=bottom):
                self.assertEqual(fraction(top, bottom), asked)

    def test_made_of_all_sizes_and_signs(self):
        for top in NUMBERS:
            for bottom in NUMBERS:
                if bottom != 0:
                    told = fraction(top, bottom)
                    self.hold(told, fractions.Fraction(top, bottom))
                    self.assertGreaterEqual(told[1], 1)
                    self.assertEqual(math.gcd(told[0], told[1]), 1)
                    self.assertEqual(told[0] * bottom, told[1] * top)

    def test_common_divisors_of_many_figures_go(self):
        for great in OF_43_FIGURES + OF_360_FIGURES:
            self.assertEqual(fraction(6 * great, 9 * great), (2, 3))
            self.assertEqual(fraction(-6 * great, 9 * great), (-2, 3))
            self.assertEqual(fraction(6 * great, -3 * great), (-2, 1))
            self.assertEqual(fraction(0, great), (0, 1))

    def test_made_of_0_as_the_second_is_refused(self):
        for top in NUMBERS:
            with self.assertRaises(NoFraction) as refused:
                fraction(top, 0)
            self.assertEqual(refused.exception.top, top)
            self.assertIs(type(refused.exception.top), int)
            self.assertIsInstance(refused.exception, StoreError)

    def test_reckoned_by_hand(self):
        self.assertEqual(plus((1, 2), (1, 3)), (5, 6))
        self.assertEqual(plus((1, 2), (-1, 2)), (0, 1))
        self.assertEqual(plus((1, 6), (1, 3)), (1, 2))
        self.assertEqual(minus((1, 2), (1, 3)), (1, 6))
        self.assertEqual(minus((1, 3), (1, 2)), (-1, 6))
        self.assertEqual(minus((7, 9), (7, 9)), (0, 1))
        self.assertEqual(times((2, 3), (3, 2)), (1, 1))
        self.assertEqual(times((-2, 3), (0, 1)), (0, 1))
        self.assertEqual(times((-2, 3), (-3, 4)), (1, 2))
        self.assertEqual(over((1, 2), (1, 4)), (2, 1))
        self.assertEqual(over((1, 2), (-3, 4)), (-2, 3))
        self.assertEqual(over((0, 1), (-3, 4)), (0, 1))

    def test_sums_and_differences(self):
        for one in SOME:
            for other in SOME:
                self.hold(plus(pair(one), pair(other)), one + other)
                self.hold(minus(pair(one), pair(other)), one - other)

    def test_products(self):
        for one in SOME:
            for other in SOME:
                self.hold(times(pair(one), pair(other)), one * other)

    def test_divided(self):
        for one in SOME:
            for other in SOME:
                if other != 0:
                    self.hold(over(pair(one), pair(other)), one / other)

    def test_divided_by_nought_is_refused(self):
        for one in SOME:
            with self.assertRaises(NoFraction) as refused:
                over(pair(one), (0, 1))
            self.assertEqual(refused.exception.top, pair(one))
            self.assertIs(type(refused.exception.top), tuple)

    def test_under(self):
        for one in SOME:
            for other in SOME:
                self.assertIs(under(pair(one), pair(other)), one < other)

    def test_under_of_nearly_like_ones(self):
        for great in (2, 10 ** 6, 7 ** 50, 3 ** 753):
            low = (great - 1, great)
            high = (great, great + 1)
            self.assertIs(under(low, high), True)
            self.assertIs(under(high, low), False)
            self.assertIs(under(low, low), False)
            self.assertIs(under((-great, great + 1), (1 - great, great)), True)
            self.assertIs(under((1 - great, great), (-great, great + 1)), False)

    def test_numbers_are_as_great_as_they_come(self):
        great = (3 ** 9100, 2 ** 15000)
        oracle = fractions.Fraction(great[0], great[1])
        self.assertGreater(great[0], 10 ** 4300)
        self.hold(plus(great, great), 2 * oracle)
        self.hold(over(great, times(great, great)), 1 / oracle)
        self.assertIs(under(great, plus(great, (1, 7))), True)


def figures(number):
    """The figures of a number above 0, one by one: Python's own writer stops at some thousand."""
    told = []
    while number > 0:
        number, figure = divmod(number, 10)
        told.append("0123456789"[figure])
    return "".join(reversed(told))


class Written(unittest.TestCase):
    def test_by_hand(self):
        for one, asked in [
            ((0, 1), "0"), ((1, 1), "1"), ((-1, 1), "-1"), ((10, 1), "10"), ((1, 2), "1/2"), ((-1, 2), "-1/2"),
            ((100, 7), "100/7"), ((-100, 7), "-100/7"), ((7, 100), "7/100"), ((1000000, 999983), "1000000/999983"),
        ]:
            with self.subTest(one=one):
                self.assertEqual(written(one), asked)
                self.assertIs(type(written(one)), str)

    def test_of_all_sizes(self):
        for one in SOME:
            self.assertEqual(written(pair(one)), str(one))

    def test_noughts_within_long_numbers_stay(self):
        for many in (1, 17, 58, 59, 60, 61, 62, 119, 120, 121, 180, 359):
            self.assertEqual(written((10 ** many, 1)), "1" + "0" * many)
            self.assertEqual(written((10 ** many + 1, 1)), "1" + "0" * (many - 1) + "1")
            self.assertEqual(written((-1, 10 ** many)), "-1/1" + "0" * many)
            self.assertEqual(written((10 ** many - 1, 1)), "9" * many)

    def test_numbers_are_as_great_as_they_come(self):
        self.assertEqual(written((10 ** 5000, 1)), "1" + "0" * 5000)
        self.assertEqual(written((-1, 10 ** 5000 + 1)), "-1/1" + "0" * 4999 + "1")
        self.assertEqual(written((7 ** 6000, 2 ** 16000)), figures(7 ** 6000) + "/" + figures(2 ** 16000))


class Read(unittest.TestCase):
    def test_what_is_written(self):
        for one in SOME:
            if abs(one.numerator) < 10 ** 60 and one.denominator < 10 ** 60:
                told = read_fraction(written(pair(one)))
                self.assertEqual(told, pair(one))
                self.assertIs(type(told), tuple)
                self.assertEqual([type(number) for number in told], [int, int])

    def test_by_hand(self):
        for text, asked in [
            ("0", (0, 1)), ("7", (7, 1)), ("-7", (-7, 1)), ("1/2", (1, 2)), ("-1/2", (-1, 2)), ("10/3", (10, 3)),
            ("-100/999", (-100, 999)), ("1000000", (1000000, 1)), ("1/1000", (1, 1000)),
        ]:
            with self.subTest(text=text):
                self.assertEqual(read_fraction(text), asked)

    def test_what_writes_none(self):
        for text in [
            "", "2/4", "3/1", "0/1", "-3/1", "-2/4", "+1", "+1/2", "1/+2", "-0", "+0", "0/5", "-0/5", "00", "01",
            "-01", "01/2", "1/02", "1/00", "1/0", "0/0", "-1/0", "1/-2", "-1/-2", "--1", "-", "--", "-/2", "1/", "/2",
            "/", "//", "1//2", "1/2/3", "1/2/", "/1/2", "1-", "1-2", "1/2-",
            " ", " 1", "1 ", "1 /2", "1/ 2", "- 1", "1 2", " 1/2", "1/2 ",
            "1_0", "_1", "1_", "1/1_0", "1.0", ".5", "1.", "0.5", "1/2.0", "1,5", "1e3", "1E3", "0x1", "0b1", "a", "1a",
            "a/2", "1/a", "None", "inf", "nan", "1:2", "1\\2", "(1, 2)", "~", "'1'",
        ]:
            with self.subTest(text=text):
                self.assertIsNone(read_fraction(text))

    def test_signs_that_some_readers_take(self):
        for text in [
            "\u0663", "1\u0663", "1/\u0663", "\u00b2", "1\u00b2", "1/\u00b2", "\uff11", "\u2460", "\u0967/\u0968", "\u00bd",
            "\u22121", "1\u20442", "1\n", "\n1", "1\t", "\t1", "1\r", "1\u00a0", "\u20031", "1/2\n", "1\x00", "1\x0c",
        ]:
            with self.subTest(text=ascii(text)):
                self.assertIsNone(read_fraction(text))

    def test_numbers_of_60_figures_are_read(self):
        great = 10 ** 60 - 1
        least = 10 ** 59
        for one in [
            (great, 1), (-great, 1), (least, 1), (1, great), (-1, great), (great, least), (-great, least), (least, great),
            (great, great - 1), (-great, great - 1),
        ]:
            with self.subTest(one=one):
                self.assertEqual(read_fraction(f"{one[0]}/{one[1]}" if one[1] != 1 else f"{one[0]}"), one)

    def test_numbers_of_61_figures_are_not_read(self):
        great = 10 ** 60
        for top, bottom in [
            (great, 1), (-great, 1), (1, great), (-1, great), (great + 1, great), (great, great - 1), (great - 1, great),
            (10 ** 61 - 1, 1), (10 ** 99, 1), (1, 10 ** 190),
        ]:
            with self.subTest(top=top, bottom=bottom):
                self.assertIsNone(read_fraction(written((top, bottom))))

    def test_long_texts_of_no_fraction(self):
        for text in ["0" * 200, "-" * 200, "/" * 200, " " * 200, "1" * 200, "1/" * 100, "0" * 60, "0" * 59 + "1"]:
            with self.subTest(text=text):
                self.assertIsNone(read_fraction(text))


if __name__ == "__main__":
    unittest.main()
