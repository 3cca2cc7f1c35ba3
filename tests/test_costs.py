"""Points 15 and 16: the costs of plans, with faults and without, and which are less."""

import copy
from fractions import Fraction
import math
import unittest

from samples import DAY, costs_of, idle_plan, kinds, pair, some_houses, some_plans
from sunstore.costs import costs
from sunstore.triples import ahead

NOUGHT = (0, 1)
TRIPLE = (tuple, [(tuple, [int, int])] * 3)
HOUSE = (
    ((10, 10, (6, 100, 4, 100)), (10, 10, None), (10, 10, (-6, 100, -4, 100))),
    (50, 9, 20, 20, (1, 2), (1, 3), 5),
    (("wash", 12, 0, 2, 7), ("heat", 40, 0, 0, 10)),
)


def deed(hour, place, one):
    """A plan of HOUSE that does but one thing."""
    rows = []
    for number in range(3):
        row = [NOUGHT] * 5
        works = [NOUGHT] * 2
        if number == hour and place < 5:
            row[place] = one
        if number == hour and place >= 5:
            works[place - 5] = one
        rows.append(tuple(row) + (tuple(works),))
    return tuple(rows)


IDLE = deed(0, 0, NOUGHT)


class Costs(unittest.TestCase):
    def test_by_hand(self):
        plan = (
            ((5, 1), (0, 1), (2, 1), (0, 1), (0, 1), ((0, 1), (0, 1))),
            ((0, 1), (0, 1), (0, 1), (2, 1), (1, 3), ((4, 1), (1, 2))),
            ((1, 1), (7, 2), (0, 1), (0, 1), (0, 1), ((4, 1), (0, 1))),
            ((0, 1), (0, 1), (0, 1), (4, 1), (6, 1), ((0, 1), (1, 1))),
        )
        # Bought 5 for 30 and 1 for -7; given 7/2 for -8; behind the last hour 4/5 for 4.
        self.assertEqual(costs(DAY[0], plan), ((19, 3), (3, 2), pair(150 - 7 + 28 - Fraction(16, 5))))

    def test_doing_nothing(self):
        self.assertEqual(costs(HOUSE, IDLE), (NOUGHT, (52, 1), (-45, 1)))

    def test_each_deed_by_itself(self):
        for hour, place, one, asked in [
            (0, 0, (1, 4), (0, 52, Fraction(-87, 2))), (2, 0, (1, 4), (0, 52, Fraction(-93, 2))),
            (0, 1, (1, 3), (0, 52, Fraction(-139, 3))), (2, 1, (1, 3), (0, 52, Fraction(-131, 3))),
            (0, 2, (1, 3), (0, 52, Fraction(-275, 6))), (1, 2, (2, 1), (0, 52, -50)),
            (0, 3, (1, 3), (0, 52, Fraction(-130, 3))), (1, 3, (9, 1), (0, 52, 0)),
            (0, 4, (1, 3), (Fraction(1, 3), 52, -45)), (1, 4, (10, 1), (10, 52, -45)),
            (0, 5, (1, 3), (0, Fraction(155, 3), -45)), (2, 5, (7, 1), (0, 45, -45)),
            (0, 6, (10, 1), (0, 42, -45)), (1, 6, (1, 2), (0, Fraction(103, 2), -45)),
        ]:
            told = costs(HOUSE, deed(hour, place, one))
            self.assertEqual(told, tuple(pair(Fraction(part)) for part in asked), (hour, place, one))

    def test_in_dark_hours_nothing_has_a_price(self):
        for place in (0, 1):
            for one in ((7, 1), (-7, 2)):
                self.assertEqual(costs(HOUSE, deed(1, place, one)), costs(HOUSE, IDLE))

    def test_with_faults_parts_may_be_below_nought(self):
        self.assertEqual(costs(HOUSE, deed(1, 5, (53, 1))), (NOUGHT, (-1, 1), (-45, 1)))
        self.assertEqual(costs(HOUSE, deed(1, 4, (-1, 2))), ((-1, 2), (52, 1), (-45, 1)))
        self.assertEqual(costs(HOUSE, deed(2, 3, (10, 1))), (NOUGHT, (52, 1), (5, 1)))

    def test_what_is_above_one_work_s_amount_still_counts_for_all_together(self):
        self.assertEqual(costs(HOUSE, deed(0, 5, (20, 1)))[1], (32, 1))

    def test_plans_of_all_kinds(self):
        for house, plan in some_plans():
            told = costs(house, plan)
            self.assertEqual(told, tuple(pair(Fraction(part)) for part in costs_of(house, plan)))
            self.assertEqual(kinds(told), TRIPLE)
            for top, bottom in told:
                self.assertGreaterEqual(bottom, 1)
                self.assertEqual(math.gcd(top, bottom), 1)

    def test_idle_plans(self):
        for house in some_houses():
            hours, store, works = house
            lacked = sum(max(need - sun, 0) for sun, need, _ in hours)
            undone = sum(work[1] for work in works)
            self.assertEqual(costs(house, idle_plan(house)), ((lacked, 1), (undone, 1), (-store[1] * store[6], 1)))

    def test_houses_somewhat_beyond_their_bounds(self):
        self.assertEqual(costs(((),) + HOUSE[1:], ()), (NOUGHT, (52, 1), (-45, 1)))
        house = (HOUSE[0] * 9, (5, 9, 20, 20, (3, 2), (1, 1001), -5), HOUSE[2] * 4)
        plan = tuple(deeds[:5] + (deeds[5] * 4,) for deeds in deed(0, 2, (1, 3)) * 9)
        self.assertEqual(costs(house, plan), (NOUGHT, (208, 1), (135, 2)))

    def test_which_are_less(self):
        # Each is less than all behind it: first what is lacked, then what is undone, then coins.
        plans = [
            deed(0, 5, (1, 1)), deed(0, 5, (1, 2)), deed(0, 1, (9, 1)), IDLE, deed(0, 0, (9, 1)),
            deed(0, 4, (1, 9)), deed(0, 4, (1, 8)),
        ]
        told = [costs(HOUSE, plan) for plan in plans]
        for place, one in enumerate(told):
            for other_place, other in enumerate(told):
                self.assertIs(ahead(one, other), place < other_place)

    def test_nothing_is_changed_and_what_was_told_stays(self):
        told = []
        for house, plan in some_plans()[::5]:
            before = copy.deepcopy((house, plan))
            told.append((costs(house, plan), house, plan))
            self.assertEqual((house, plan), before)
        for triple, house, plan in told:
            self.assertEqual(costs(house, plan), triple)


if __name__ == "__main__":
    unittest.main()
