"""Points 11 to 14 and 17: the ledger of a plan, its sums, and its faults."""

import copy
from fractions import Fraction
import unittest

from samples import DAY, faults_of, idle_plan, kinds, ledger_of, pair, parts_of, some_houses, some_plans
from sunstore.ledgers import faults, ledger

NOUGHT = (0, 1)
ENTRY = (tuple, [(tuple, [int, int])] * 3)

# So much sun that nothing spills below 0 and so great a store that each fault comes by itself; hour 2 is dark.
ROOMY = (
    ((900, 10, (3, 8, 2, 6)), (900, 10, (3, 8, 2, 6)), (900, 10, None), (900, 10, (3, 8, 2, 6))),
    (1000, 500, 20, 30, (9, 10), (4, 5), 1),
    (("wash", 12, 1, 2, 7), ("heat", 40, 0, 3, 10)),
)
IDLE = ((NOUGHT,) * 5 + ((NOUGHT, NOUGHT),),) * 4


def changed(plan, changes):
    """The plan with other deeds: changes maps (hour, place) or (hour, 5, work) to a fraction."""
    rows = [list(deeds[:5]) + [list(deeds[5])] for deeds in plan]
    for where, one in changes.items():
        if len(where) == 3:
            rows[where[0]][5][where[2]] = one
        else:
            rows[where[0]][where[1]] = one
    return tuple(tuple(row[:5]) + (tuple(row[5]),) for row in rows)


class Ledgers(unittest.TestCase):
    def test_by_hand(self):
        plan = (
            ((5, 1), (0, 1), (2, 1), (0, 1), (0, 1), ((0, 1), (0, 1))),
            ((0, 1), (0, 1), (0, 1), (2, 1), (1, 3), ((4, 1), (1, 2))),
            ((1, 1), (7, 2), (0, 1), (0, 1), (0, 1), ((4, 1), (0, 1))),
            ((0, 1), (0, 1), (0, 1), (24, 5), (6, 1), ((0, 1), (1, 1))),
        )
        self.assertEqual(ledger(DAY[0], plan), [
            ((0, 1), (1, 5), (34, 5)),
            ((86, 15), (1, 10), (24, 5)),
            ((1, 2), (0, 1), (24, 5)),
            ((89, 25), (6, 25), (0, 1)),
        ])

    def test_each_deed_by_itself(self):
        for place, spilt, lost, level in [
            (0, 891, 0, 500), (1, 889, 0, 500), (2, 889, Fraction(1, 10), 500 + Fraction(9, 10)),
            (3, 890 + Fraction(4, 5), Fraction(1, 5), 499), (4, 891, 0, 500),
        ]:
            told = ledger(ROOMY, changed(IDLE, {(1, place): (1, 1)}))
            behind = pair(Fraction(level))
            self.assertEqual(told, [
                ((890, 1), NOUGHT, (500, 1)), (pair(Fraction(spilt)), pair(Fraction(lost)), behind),
                ((890, 1), NOUGHT, behind), ((890, 1), NOUGHT, behind),
            ])
        told = ledger(ROOMY, changed(IDLE, {(1, 5, 0): (1, 3), (1, 5, 1): (1, 2)}))
        self.assertEqual(told[1], ((889 * 6 + 1, 6), NOUGHT, (500, 1)))

    def test_in_dark_hours_what_is_bought_and_given_still_comes_and_goes(self):
        told = ledger(ROOMY, changed(IDLE, {(2, 0): (5, 1), (2, 1): (1, 2)}))
        self.assertEqual(told[2], ((1789, 2), NOUGHT, (500, 1)))

    def test_plans_of_all_kinds(self):
        for house, plan in some_plans():
            told = ledger(house, plan)
            self.assertEqual(told, [tuple(pair(one) for one in entry) for entry in ledger_of(house, plan)])
            self.assertEqual(kinds(told), (list, [ENTRY] * len(house[0])))

    def test_each_hour_sums_up(self):
        for house, plan in some_plans():
            level = Fraction(house[1][1])
            for (sun, need, _), deeds, entry in zip(house[0], plan, ledger(house, plan)):
                bought, given, _, _, lacked, worked = parts_of(deeds)
                spilt, lost, behind = [Fraction(*one) for one in entry]
                self.assertEqual(sun + bought + lacked + level, need + given + sum(worked) + spilt + lost + behind)
                level = behind

    def test_great_fractions(self):
        great = 10 ** 399
        plan = changed(IDLE, {(0, 2): (great, great - 1), (1, 3): (-1, great + 1), (2, 0): (1, great), (3, 2): NOUGHT})
        self.assertEqual(ledger(ROOMY, plan), [tuple(pair(one) for one in row) for row in ledger_of(ROOMY, plan)])

    def test_a_told_level_may_be_handed_in_again(self):
        level = ledger(ROOMY, changed(IDLE, {(0, 2): (10 ** 399, 10 ** 399 - 1)}))[3][2]
        self.assertEqual(ledger(ROOMY, changed(IDLE, {(0, 3): level}))[0][2], pair(500 - Fraction(*level)))


class Faults(unittest.TestCase):
    def hold(self, changes, asked):
        plan = changed(IDLE, changes)
        told = faults(ROOMY, plan)
        self.assertEqual(told, asked, changes)
        self.assertIs(type(told), list)
        for fault, due in zip(told, asked):
            self.assertEqual(kinds(fault), kinds(due))

    def test_none(self):
        self.hold({}, [])
        for house in some_houses():
            self.assertEqual(faults(house, idle_plan(house)), [])

    def test_none_at_the_most(self):
        self.hold({
            (0, 0): (8, 1), (0, 1): (6, 1), (0, 2): (20, 1), (0, 3): (30, 1), (0, 4): (10, 1),
            (1, 5, 0): (7, 1), (2, 5, 0): (5, 1), (0, 5, 1): (10, 1), (1, 5, 1): (10, 1), (2, 5, 1): (10, 1),
            (3, 5, 1): (10, 1),
        }, [])

    def test_each_deed_below_nought_and_beyond_its_most(self):
        for hour in (0, 1, 3):
            for place, word, most in ((0, "buy", 8), (1, "give", 6), (2, "fill", 20), (3, "take", 30), (4, "lack", 10)):
                for one in ((-1, 1), (-1, 10 ** 399), (most * 10 ** 9 + 1, 10 ** 9), (most + 1, 1)):
                    self.hold({(hour, place): one}, [(word, hour)])
                for one in ((most, 1), (most * 10 ** 9 - 1, 10 ** 9), (1, 10 ** 399)):
                    self.hold({(hour, place): one}, [])

    def test_without_line(self):
        for one in ((-1, 1), (1, 1), (1, 10 ** 399), (-1, 10 ** 399)):
            self.hold({(2, 0): one}, [("buy", 2)])
            self.hold({(2, 1): one}, [("give", 2)])
        self.hold({(2, 2): (20, 1), (2, 3): (30, 1), (2, 4): (10, 1)}, [])

    def test_a_work_in_its_hours_and_outside(self):
        for one in ((-1, 1), (-1, 10 ** 399), (7 * 10 ** 9 + 1, 10 ** 9), (8, 1)):
            for hour in (1, 2):
                self.hold({(hour, 5, 0): one}, [("work", hour, 0)])
        for one in ((-1, 1), (1, 1), (1, 10 ** 399), (-1, 10 ** 399), (7, 1)):
            for hour in (0, 3):
                self.hold({(hour, 5, 0): one}, [("work", hour, 0)])
        for hour in range(4):
            self.hold({(hour, 5, 1): (10, 1)}, [])
            self.hold({(hour, 5, 1): (21, 2)}, [("work", hour, 1)])

    def test_more_done_than_the_amount(self):
        self.hold({(1, 5, 0): (7, 1), (2, 5, 0): (5, 1)}, [])
        self.hold({(1, 5, 0): (7, 1), (2, 5, 0): (5 * 10 ** 9 + 1, 10 ** 9)}, [("done", 0)])
        self.hold({(1, 5, 0): (7, 1), (2, 5, 0): (6, 1)}, [("done", 0)])
        self.hold({(1, 5, 0): (7, 1), (2, 5, 0): (5, 1), (3, 5, 0): (1, 9)}, [("done", 0), ("work", 3, 0)])
        self.hold({(1, 5, 0): (7, 1), (2, 5, 0): (6, 1), (3, 5, 0): (-1, 1)}, [("work", 3, 0)])
        self.hold({(hour, 5, 1): (11, 1) for hour in range(4)}, [("done", 1)] + [("work", t, 1) for t in range(4)])

    def test_the_level(self):
        hours = ROOMY[0]
        for size, start, changes, asked in [
            (10, 10, {}, []),
            (10, 10, {(1, 2): (1, 10 ** 9)}, [("level", 1), ("level", 2), ("level", 3)]),
            (10, 10, {(1, 2): (10, 9), (1, 3): (1, 1)}, []),
            (10, 10, {(1, 2): (1, 1), (2, 3): (1, 1)}, [("level", 1)]),
            (10, 1, {(0, 3): (1, 1)}, []),
            (10, 1, {(2, 3): (10 ** 9 + 1, 10 ** 9)}, [("level", 2), ("level", 3)]),
            (10, 1, {(0, 3): (2, 1), (1, 2): (10, 9)}, [("level", 0)]),
            (10, 1, {(3, 2): (10, 1)}, []),
            (10, 1, {(3, 2): (11, 1)}, [("level", 3)]),
        ]:
            house = (hours, (size, start) + ROOMY[1][2:], ROOMY[2])
            self.assertEqual(faults(house, changed(IDLE, changes)), asked, (size, start, changes))

    def test_spill_below_nought(self):
        tight = tuple((10, 10, line) for _, _, line in ROOMY[0])
        house = (tight, ROOMY[1], ROOMY[2])
        self.assertEqual(faults(house, IDLE), [])
        for changes, asked in [
            ({(1, 1): (1, 10 ** 9)}, [("spill", 1)]),
            ({(1, 2): (1, 1)}, [("spill", 1)]),
            ({(3, 5, 1): (1, 1)}, [("spill", 3)]),
            ({(3, 5, 1): (1, 1), (3, 0): (1, 1)}, []),
            ({(3, 5, 1): (1, 1), (3, 4): (1, 1)}, []),
            ({(3, 5, 1): (4, 1), (3, 3): (5, 1)}, []),
            ({(3, 5, 1): (4, 1), (3, 3): (49, 10)}, [("spill", 3)]),
        ]:
            self.assertEqual(faults(house, changed(IDLE, changes)), asked, changes)

    def test_several_at_once_are_sorted_each_once(self):
        self.hold({
            (3, 0): (9, 1), (0, 0): (-1, 1), (2, 1): (1, 1), (1, 2): (21, 1), (1, 3): (31, 1), (0, 4): (11, 1),
            (0, 5, 0): (13, 1), (0, 5, 1): (41, 1), (3, 5, 0): (1, 1), (1, 5, 1): (-1, 2),
        }, [
            ("buy", 0), ("buy", 3), ("done", 0), ("done", 1), ("fill", 1), ("give", 2), ("lack", 0), ("take", 1),
            ("work", 0, 0), ("work", 0, 1), ("work", 1, 1), ("work", 3, 0),
        ])
        self.hold({(1, 2): (2000, 1)}, [
            ("fill", 1), ("level", 1), ("level", 2), ("level", 3), ("spill", 1),
        ])

    def test_hours_are_sorted_as_numbers(self):
        house = (ROOMY[0][:1] * 12, ROOMY[1], ())
        plan = (((9, 1), NOUGHT, NOUGHT, NOUGHT, NOUGHT, ()),) * 12
        self.assertEqual(faults(house, plan), [("buy", t) for t in range(12)])

    def test_plans_of_all_kinds(self):
        words = set()
        for house, plan in some_plans():
            told = faults(house, plan)
            self.assertEqual(told, faults_of(house, plan))
            words.update(fault[0] for fault in told)
        self.assertEqual(len(words), 9)


class Beyond(unittest.TestCase):
    def test_houses_somewhat_beyond_their_bounds(self):
        none = ((),) + ROOMY[1:]
        self.assertEqual((ledger(none, ()), faults(none, ())), ([], []))
        house = (ROOMY[0] * 7, (500, 501, 20, 30, (3, 2), (1, 1001), -1), ROOMY[2] * 4)
        plan = tuple(deeds[:5] + (deeds[5] * 4,) for deeds in changed(IDLE, {(1, 2): (1, 3), (0, 3): (31, 1)}) * 7)
        self.assertEqual(ledger(house, plan), [tuple(pair(one) for one in row) for row in ledger_of(house, plan)])
        self.assertEqual(faults(house, plan), faults_of(house, plan))


class Own(unittest.TestCase):
    def test_what_is_told_is_the_asker_s_own_and_nothing_is_changed(self):
        for house, plan in some_plans()[::5]:
            ahead = copy.deepcopy((house, plan))
            for asked in (ledger, faults):
                told = asked(house, plan)
                again = asked(house, plan)
                kept = list(again)
                told.append("more")
                told[0] = "changed"
                self.assertEqual(again, kept)
                self.assertEqual(asked(house, plan), kept)
            self.assertEqual((house, plan), ahead)


if __name__ == "__main__":
    unittest.main()
