"""Points 4 and 22 to 24: the best plan of a house, borne out by prices."""

import copy
from fractions import Fraction
import random
import unittest

from samples import (
    costs_of, faults_of, floor_by_rules, good_plan, idle_plan, kinds, pair, paired, some_days, some_houses,
)
from sunstore.best import best_plan
from sunstore.costs import costs
from sunstore.floors import floor_of
from sunstore.ledgers import faults
from sunstore.triples import ahead

FRACTION = (tuple, [int, int])
TRIPLE = (tuple, [FRACTION] * 3)
ONE = (1, 1)
NO_STORE = (0, 0, 0, 0, ONE, ONE, 0)

# In these houses to fill and to take in one hour costs nothing, because more is bought, for coins, than can be used.
BOTH_WAYS = [
    (((4, 7, (-3, 12, -7, 6)), (0, 2, (-5, 7, -5, 8)), (8, 7, (6, 9, -7, 3)), (7, 8, (8, 10, -4, 8)), (8, 8, None)),
     (10, 6, 3, 4, ONE, (9, 10), 3), ()),
    (((4, 7, (1, 10, 8, 1)), (7, 3, (-3, 2, 3, 8)), (8, 4, (-8, 10, -2, 0)), (7, 5, (-2, 11, 4, 9)), (2, 6, None)),
     (5, 5, 8, 2, (9, 10), (9, 10), 3), ()),
    (((0, 6, (-2, 10, 8, 1)),), (0, 0, 6, 3, (9, 10), (9, 10), 0), ()),
    (((7, 4, (-7, 8, 3, 3)), (0, 7, (-1, 12, -5, 6)), (2, 8, (2, 7, -9, 3)), (3, 8, None), (7, 4, (3, 6, 8, 1))),
     (6, 0, 4, 5, ONE, (1, 2), 0), ()),
]


def negative_days():
    """Houses in which one is often paid for what is bought, by a fixed seed."""
    source = random.Random(24)

    def under_ten(least=0):
        return source.randint(least, 9)

    days = []
    for hours in (1, 2, 3, 4, 5) * 30:
        rows = []
        for _ in range(hours):
            line = (under_ten(-9) - 7, under_ten(), under_ten(-9), under_ten())
            rows.append((under_ten(), under_ten(), line))
        size = under_ten()
        shares = [source.choice([ONE, (1, 2), (9, 10)]) for _ in range(2)]
        store = (size, source.randint(0, size), under_ten(), under_ten(), *shares, source.choice([0, 3]))
        days.append((tuple(rows), store, ()))
    return days


def dark_day(hours, sun, need, store):
    """A house without line whose sun of the first hour has to last."""
    return (((sun, need, None),) + ((0, need, None),) * (hours - 1), store, ())


class Best(unittest.TestCase):
    def hold(self, house):
        """The best plan's costs, where the plan and the prices are what the document asks."""
        before = copy.deepcopy(house)
        told = best_plan(house)
        self.assertEqual(house, before)
        plan, prices = told
        hours, works = len(house[0]), len(house[2])
        row = (tuple, [FRACTION] * 5 + [(tuple, [FRACTION] * works)])
        self.assertEqual(kinds(told), (tuple, [
            (tuple, [row] * hours),
            (tuple, [(tuple, [TRIPLE] * hours), (tuple, [TRIPLE] * hours), (tuple, [TRIPLE] * works)]),
        ]))
        for deeds in plan:
            for top, bottom in deeds[:5] + deeds[5]:
                self.assertEqual(pair(Fraction(top, bottom)), (top, bottom))
            self.assertIn(0, (deeds[2][0], deeds[3][0]))
        self.assertEqual(faults_of(house, plan), [])
        self.assertEqual(costs_of(house, plan), floor_by_rules(house, prices))
        return tuple(Fraction(one) for one in costs_of(house, plan))

    def costs(self, asked, hours, store=NO_STORE, works=()):
        self.assertEqual(self.hold((hours, store, works)), tuple(Fraction(one) for one in asked))

    def test_one_hour_by_hand(self):
        self.costs((0, 0, 0), ((0, 0, None),))
        self.costs((5, 0, 0), ((0, 5, None),))
        self.costs((0, 0, 0), ((9, 5, None),))
        self.costs((0, 0, 15), ((0, 5, (3, 10, 1, 10)),))
        self.costs((2, 0, 9), ((0, 5, (3, 3, 1, 10)),))
        self.costs((0, 0, -6), ((11, 5, (3, 10, 1, 10)),))
        self.costs((0, 0, -2), ((11, 5, (3, 10, 1, 2)),))
        self.costs((0, 0, 0), ((11, 5, (3, 10, -1, 2)),))

    def test_coins_never_count_ahead_of_what_lacks(self):
        self.costs((0, 0, 5000000), ((0, 5, (1000000, 10, 1000000, 10)),))
        self.costs((0, 0, 0), ((5, 5, (1000000, 0, 1000000, 10)),))
        self.costs((0, 0, 0), ((0, 5, None), (0, 0, (1, 0, 1000000, 10))), (5, 5, 0, 5, ONE, ONE, 1000000))

    def test_prices_below_nought(self):
        # One is paid for buying, and spills it; what is given would have to be paid for.
        self.costs((0, 0, -40), ((6, 5, (-4, 10, -1, 10)),))
        # To buy for less than one is paid for giving.
        self.costs((0, 0, -20), ((5, 5, (3, 10, 5, 20)),))

    def test_the_store_by_hand(self):
        store = (10, 0, 10, 10, (1, 2), (4, 5), 0)
        # A unit for the second hour is 5/2 units in the first one; bought there for 2, here for 6.
        self.costs((0, 0, 20), ((0, 0, (2, 90, 0, 0)), (0, 4, (6, 90, 0, 0))), store)
        self.costs((0, 0, 16), ((0, 0, (2, 90, 0, 0)), (0, 4, (4, 90, 0, 0))), store)
        # Only 10 can be filled: 4 of 6 come that way.
        self.costs((0, 0, 32), ((0, 0, (2, 90, 0, 0)), (0, 6, (6, 90, 0, 0))), store)
        self.costs((2, 0, 20), ((0, 0, (2, 90, 0, 0)), (0, 6, None)), store)
        # Only 3 are taken in an hour, or fit in.
        self.costs((Fraction(18, 5), 0, 12), ((0, 0, (2, 90, 0, 0)), (0, 6, None)), (10, 0, 10, 3, (1, 2), (4, 5), 0))
        self.costs((Fraction(18, 5), 0, 12), ((0, 0, (2, 90, 0, 0)), (0, 6, None)), (3, 0, 10, 9, (1, 2), (4, 5), 0))

    def test_what_is_left_in_the_store(self):
        self.costs((0, 0, -35), ((0, 0, None),), (9, 5, 9, 9, ONE, ONE, 7))
        self.costs((0, 0, -63), ((4, 0, None),), (9, 5, 9, 9, ONE, ONE, 7))
        # Taken, a unit is given for 8 times 4/5; left, it is worth 7, or 6.
        self.costs((0, 0, -35), ((0, 0, (9, 0, 8, 9)),), (9, 5, 9, 9, ONE, (4, 5), 7))
        self.costs((0, 0, -32), ((0, 0, (9, 0, 8, 9)),), (9, 5, 9, 9, ONE, (4, 5), 6))

    def test_works_by_hand(self):
        hours = ((0, 0, (5, 3, 0, 0)), (0, 0, (2, 3, 0, 0)), (0, 0, (4, 3, 0, 0)))
        self.costs((0, 0, 14), hours, works=(("wash", 5, 0, 2, 9),))
        self.costs((0, 0, 17), hours, works=(("wash", 5, 0, 2, 2),))
        self.costs((0, 0, 6), hours, works=(("wash", 3, 1, 1, 9),))
        self.costs((0, 2, 6), hours, works=(("wash", 5, 1, 1, 9),))
        self.costs((0, 1, 12), hours, works=(("wash", 5, 1, 2, 2),))
        self.costs((0, 0, 23), hours, works=(("wash", 3, 0, 2, 9), ("heat", 4, 0, 1, 9)))

    def test_the_need_goes_ahead_of_works_and_these_ahead_of_coins(self):
        self.costs((0, 2, 0), ((5, 3, None),), works=(("wash", 4, 0, 0, 9),))
        self.costs((1, 4, 0), ((2, 3, None),), works=(("wash", 4, 0, 0, 9),))
        self.costs((0, 0, 4000000), ((5, 5, (1000000, 9, 1000000, 9)),), works=(("wash", 4, 0, 0, 9),))

    def test_the_sun_of_the_first_hour_has_to_last(self):
        # Of each unit filled 2/5 come out again: 23 hours with a need of 2 take 115, and the first hour 2.
        store = (100, 0, 200, 4, (4, 5), (1, 2), 0)
        for sun, asked in [(117, 0), (116, Fraction(2, 5)), (200, 0), (2, 46), (0, 48)]:
            self.assertEqual(self.hold(dark_day(24, sun, 2, store)), (asked, 0, 0))
        for store in [(92, 0, 115, 4, (4, 5), (1, 2), 0), (100, 0, 115, 4, (4, 5), (1, 2), 0)]:
            self.assertEqual(self.hold(dark_day(24, 117, 2, store)), (0, 0, 0))
        # One less in any of its numbers, and something lacks.
        for store, asked in [
            ((91, 0, 115, 4, (4, 5), (1, 2), 0), Fraction(1, 2)), ((92, 0, 114, 4, (4, 5), (1, 2), 0), Fraction(2, 5)),
            ((92, 0, 115, 3, (4, 5), (1, 2), 0), Fraction(23, 2)),
        ]:
            self.assertEqual(self.hold(dark_day(24, 117, 2, store)), (asked, 0, 0))

    def test_dark_days_of_all_lengths(self):
        source = random.Random(25)
        for hours in range(1, 25):
            need = source.randint(1, 5)
            kept, left = source.choice([(1, 1), (9, 10), (997, 1000)]), source.choice([(1, 1), (3, 4), (991, 1000)])
            through = Fraction(*kept) * Fraction(*left)
            sun = source.randint(0, 2 * hours * need)
            asked = max(0, need - sun) + max(0, need * (hours - 1) - max(0, sun - need) * through)
            self.assertEqual(self.hold(dark_day(hours, sun, need, (900, 0, 900, 90, kept, left, 0))), (asked, 0, 0))

    def test_days_of_all_kinds(self):
        for house in some_days() + some_houses():
            self.hold(house)

    def test_never_filled_and_taken_in_one_hour(self):
        for house in BOTH_WAYS + negative_days():
            self.hold(house)

    def test_every_window_of_a_work(self):
        hours = ((3, 1, (5, 3, 2, 2)), (0, 2, None), (9, 2, (2, 3, 1, 9)), (0, 4, (7, 2, 3, 1)))
        store = (6, 1, 4, 3, (9, 10), (4, 5), 1)
        for first in range(4):
            for last in range(first, 4):
                self.hold((hours, store, (("wash", 7, first, last, 3), ("heat", 2, 0, 3, 1))))

    def test_no_plan_without_faults_has_less_costs(self):
        source = random.Random(26)
        for house in some_days():
            least = self.hold(house)
            for plan in [idle_plan(house)] + [good_plan(source, house) for _ in range(12)]:
                self.assertEqual(faults_of(house, plan), [])
                self.assertGreaterEqual(costs_of(house, plan), least)

    def test_the_program_says_the_same_of_it(self):
        for house in some_days()[::4]:
            plan, prices = best_plan(house)
            self.assertEqual(faults(house, plan), [])
            self.assertEqual(costs(house, plan), floor_of(house, prices))
            self.assertFalse(ahead(costs(house, idle_plan(house)), costs(house, plan)))

    def test_all_numbers_at_their_bounds(self):
        full = 1000000
        hour = (full, full, (full, full, -full, full))
        dark = (0, full, None)
        for kept, left in [(ONE, ONE), ((1, 1000), (999, 1000)), ((997, 1000), (991, 997))]:
            store = (full, full, full, full, kept, left, full)
            works = tuple((name, full, 0, 23, full) for name in ("a", "b", "c", "d", "e", "f"))
            self.hold(((hour, dark) * 12, store, works))
            self.hold(((dark, (full, 0, (-full, full, full, full))) * 12, store, works))

    def test_houses_somewhat_beyond_their_bounds(self):
        house = some_days()[-1]
        works = house[2] + (("more", 5, 0, 23, 2), ("evenmoreof", 2000000, 3, 26, 1000001))
        self.hold((house[0] + house[0][:6], house[1], works))
        self.assertEqual(best_plan(((), (9, 5, 9, 9, ONE, ONE, 7), ())), ((), ((), (), ())))


class Own(unittest.TestCase):
    def test_asked_again_behind_another_house(self):
        houses = some_days()[::6]
        told = [best_plan(house) for house in houses]
        kept = copy.deepcopy(told)
        for house, answer in list(zip(houses, told))[::-1]:
            self.assertEqual(costs(house, best_plan(house)[0]), costs(house, answer[0]))
        self.assertEqual(told, kept)
        self.assertEqual([paired(costs_of(house, plan)) for house, (plan, _) in zip(houses, told)],
                         [floor_of(house, prices) for house, (_, prices) in zip(houses, told)])


if __name__ == "__main__":
    unittest.main()
