"""Points 25 to 27: rests of a house's prices, refusals, and the floor."""

import copy
from fractions import Fraction
import random
import unittest

from samples import (
    BOUNDS, DAY, LEAST, NUMBERS, broken_number, combined, costs_of, faults_of, floor_by_rules, good_plan, idle_plan,
    kinds, longest_number, pair, paired, rests_of, scarce_number, some_days, some_houses, some_prices, triples_of,
)
from sunstore.best import best_plan
from sunstore.costs import costs
from sunstore.errors import NoPrices, StoreError
from sunstore.floors import floor_of
from sunstore.triples import ahead

NOUGHT = (0, 1)
FREE = (NOUGHT, NOUGHT, NOUGHT)
TRIPLE = (tuple, [(tuple, [int, int])] * 3)
# Two hours, the second one dark, and two works; every number is another one.
HOUSE = (
    ((10, 13, (6, 17, 4, 19)), (31, 2, None)),
    (50, 9, 23, 29, (1, 2), (1, 3), 5),
    (("wash", 12, 0, 1, 7), ("heat", 41, 1, 1, 11)),
)


def triple(*numbers):
    return tuple(pair(Fraction(number)) for number in numbers)


def coins(number):
    return triple(0, 0, number)


def prices_of(here, stored, done):
    """Prices of HOUSE in coins alone."""
    return tuple(tuple(coins(number) for number in part) for part in (here, stored, done))


def close_prices(source, house):
    """Prices near those that bear out the best plan: many rests are nought or little."""
    def near(told):
        by = Fraction(source.choice([0, 0, 0, 1, -1]), source.choice([1, 7, 10 ** 9]))
        return paired(combined([(1, triples_of([told])[0]), (by, source.choice([(1, 0, 0), (0, 1, 0), (0, 0, 1)]))]))

    return tuple(tuple(near(told) for told in part) for part in best_plan(house)[1])


class Floors(unittest.TestCase):
    def test_no_prices_at_all(self):
        # By prices of nought, only to give, where it is paid for, and to leave what is worth something is ahead.
        self.assertEqual(floor_of(HOUSE, prices_of([0, 0], [0, 0], [0, 0])), coins(-4 * 19 - 5 * 50))
        self.assertEqual(floor_of(LEAST[0], prices_of([0], [0], [])), FREE)

    def test_each_price_by_hand(self):
        for prices, asked in [
            # 3 units more of need than of sun, by 5; 29 units that can be taken, by -5/3.
            (prices_of([5, 0], [0, 0], [0, 0]), 15 - Fraction(29 * 5, 3) - 250),
            # Bought for 6, worth 8: 17 times -2.
            (prices_of([8, 0], [0, 0], [0, 0]), 24 - Fraction(29 * 8, 3) - 34 - 250),
            # Hour 1 is dark, its 29 units of sun are worth 5.
            (prices_of([0, 5], [0, 0], [0, 0]), -145 - Fraction(29 * 5, 3) - 250 - 76),
            # The start of 9 by 8; 23 units that can be filled, by -4, in the one hour or in the other.
            (prices_of([0, 0], [8, 0], [0, 0]), -72 - 4 * 23 - 250 - 76),
            (prices_of([0, 0], [0, 8], [0, 0]), -4 * 23 - 8 * 50 - 76),
            (prices_of([0, 0], [-1, 0], [0, 0]), 9 - 29 - 50 - 250 - 76),
            # Works: 12 by 3, done in two hours for 0; the second one in its one hour.
            (prices_of([0, 0], [0, 0], [3, 0]), 36 - 3 * 7 * 2 - 250 - 76),
            (prices_of([0, 0], [0, 0], [0, 3]), 123 - 33 - 250 - 76),
            (prices_of([0, 0], [0, 0], [-3, 0]), -36 - 250 - 76),
        ]:
            self.assertEqual(floor_of(HOUSE, prices), coins(asked), prices)

    def test_lacking_and_leaving_undone(self):
        here = (triple(3, 0, 0), triple(1, 0, 0))
        # A unit in the first hour is worth more than to lack it; there 13 can be lacked, 17 bought, 29 taken.
        told = floor_of(HOUSE, (here, (FREE, FREE), (FREE, FREE)))
        lacks = 3 * 3 - 29 - 2 * 13 - 3 * 17 - 3 * Fraction(29, 3) - Fraction(29, 3)
        self.assertEqual(told, triple(lacks, 0, 6 * 17 - 250))
        done = (triple(0, 4, 0), triple(0, 1, 7))
        # To leave undone what is worth 4 gains 3 for each of 12; of the second work 7 coins.
        told = floor_of(HOUSE, ((FREE, FREE), (FREE, FREE), done))
        self.assertEqual(told, triple(0, 48 - 36 - 4 * 14 + 41 - 11, 7 * 41 - 7 * 41 - 77 - 250 - 76))

    def test_of_all_kinds(self):
        source = random.Random(28)
        for house in some_houses() + some_days():
            for number in NUMBERS:
                prices = some_prices(source, house, number)
                told = floor_of(house, prices)
                self.assertEqual(told, paired(floor_by_rules(house, prices)))
                self.assertEqual(kinds(told), TRIPLE)

    def test_close_to_the_prices_of_the_best_plan(self):
        source = random.Random(29)
        refused = 0
        for house in some_days():
            prices = close_prices(source, house)
            asked = floor_by_rules(house, prices)
            if isinstance(asked, int):
                refused += 1
                self.assertRaises(NoPrices, floor_of, house, prices)
            else:
                self.assertEqual(floor_of(house, prices), paired(asked))
        self.assertGreater(refused, 5)

    def test_every_choice_is_met_with_and_without_a_rest_ahead_of_nought(self):
        source = random.Random(30)
        seen = set()
        for house in some_days():
            prices = some_prices(source, house, scarce_number)
            seen.update((name[0], rest < (0, 0, 0)) for name, _, rest in rests_of(house, prices))
        self.assertEqual(len(seen), 16)

    def test_great_fractions(self):
        source = random.Random(31)
        for house in (LEAST[0], DAY[0], BOUNDS[0], some_days()[-1]):
            prices = some_prices(source, house, longest_number)
            self.assertEqual(floor_of(house, prices), paired(floor_by_rules(house, prices)))

    def test_no_plan_without_faults_has_costs_ahead_of_it(self):
        source = random.Random(32)
        for house in some_days():
            plans = [idle_plan(house)] + [good_plan(source, house) for _ in range(4)]
            for number in NUMBERS:
                prices = some_prices(source, house, number)
                told = floor_of(house, prices)
                for plan in plans:
                    self.assertEqual(faults_of(house, plan), [])
                    self.assertFalse(ahead(costs(house, plan), told))
                    self.assertLessEqual(tuple(Fraction(*one) for one in told), costs_of(house, plan))

    def test_houses_somewhat_beyond_their_bounds(self):
        house = ((), (9, 5, 9, 9, (1, 1), (1, 1), 7), ())
        self.assertEqual(floor_of(house, ((), (), ())), costs(house, ()))
        house = (HOUSE[0] * 20, (50, 51, 2000000) + HOUSE[1][3:], HOUSE[2] * 4)
        prices = some_prices(random.Random(33), house, broken_number)
        self.assertEqual(floor_of(house, prices), paired(floor_by_rules(house, prices)))


class Refusals(unittest.TestCase):
    def refused(self, house, prices, hour):
        with self.assertRaises(NoPrices) as caught:
            floor_of(house, prices)
        self.assertIsInstance(caught.exception, StoreError)
        self.assertEqual(caught.exception.hour, hour)
        self.assertIs(type(caught.exception.hour), int)

    def test_a_price_ahead_of_nought(self):
        little = Fraction(1, 10 ** 399)
        for bad in [
            triple(-1, 0, 0), triple(0, -1, 0), triple(0, 0, -1), triple(-little, 5, 5), triple(0, -little, 5),
            triple(0, 0, -little), triple(-1, -1, -1),
        ]:
            self.refused(HOUSE, ((bad, FREE), (FREE, FREE), (FREE, FREE)), 0)
            self.refused(HOUSE, ((FREE, bad), (FREE, FREE), (FREE, FREE)), 1)
            self.refused(HOUSE, ((bad, bad), (FREE, FREE), (FREE, FREE)), 0)

    def test_prices_that_are_not(self):
        little = Fraction(1, 10 ** 399)
        for good in [FREE, triple(0, 0, 1), triple(0, 1, -9), triple(1, -9, -9), triple(little, -1, -1)]:
            prices = ((good, good), (FREE, FREE), (FREE, FREE))
            self.assertEqual(floor_of(HOUSE, prices), paired(floor_by_rules(HOUSE, prices)))

    def test_prices_in_the_store_and_of_works_are_not_refused(self):
        bad = triple(-1, -1, -1)
        prices = ((FREE, FREE), (bad, bad), (bad, bad))
        self.assertEqual(floor_of(HOUSE, prices), paired(floor_by_rules(HOUSE, prices)))

    def test_the_first_such_hour(self):
        source = random.Random(34)
        for house in some_houses():
            here, stored, done = some_prices(source, house, broken_number)
            hours = sorted(source.choices(range(len(house[0])), k=2))
            for hour in hours:
                here = here[:hour] + (triple(0, Fraction(-1, 3), 9),) + here[hour + 1:]
            self.refused(house, (here, stored, done), hours[0])

    def test_good_prices_are_told_behind_a_refusal_as_ahead_of_it(self):
        source = random.Random(35)
        for house in some_days()[::5]:
            good = some_prices(source, house, broken_number)
            bad = ((triple(0, 0, -1),) + good[0][1:],) + good[1:]
            before = copy.deepcopy((house, good, bad))
            told = floor_of(house, good)
            self.refused(house, bad, 0)
            self.assertEqual(floor_of(house, good), told)
            self.assertEqual((house, good, bad), before)


if __name__ == "__main__":
    unittest.main()
