"""Points 28 to 30: a keeper's day, the plan that its rules make hour by hour."""

import copy
from fractions import Fraction
import random
import unittest

from samples import (
    FILLS, FULL, PLAIN_KEEPERS, TAKES, WORKS, day_by_rules, faults_of, kept_days, kinds, ledger_of, paired, parts_of,
    rule_by_rules, some_day, some_days, some_houses, some_keeper,
)
from sunstore.keepers import day_of
from sunstore.ledgers import faults

ONE = (1, 1)
FRACTION = (tuple, [int, int])
NO_STORE = (0, 0, 0, 0, ONE, ONE, 0)
# Of a test that holds this rule fills nothing; where it doesn't, no rule is used, and the sun is filled.
MARKED = ("none", "none", "wait")


def deeds(bought=0, given=0, filled=0, taken=0, lacked=0, worked=()):
    """An hour of a plan."""
    return paired((bought, given, filled)) + paired((taken, lacked)) + (paired(worked),)


def always(fill, take="none", works="wait"):
    """The keeper of one rule that is always used."""
    return (((), fill, take, works),)


class Days(unittest.TestCase):
    def day(self, house, keeper, *asked):
        """The keeper's day is the asked one, hour by hour, and is so by the oracle too."""
        self.assertEqual(day_of(house, keeper), asked)
        self.assertEqual(day_by_rules(house, keeper), asked)

    def hold(self, house, keeper):
        """The keeper's day is the oracle's, and keeps what point 30 promises of it."""
        plan = day_of(house, keeper)
        self.assertEqual(plan, day_by_rules(house, keeper), (house, keeper))
        hour = (tuple, [FRACTION] * 5 + [(tuple, [FRACTION] * len(house[2]))])
        self.assertEqual(kinds(plan), (tuple, [hour] * len(house[0])))
        self.assertEqual(faults_of(house, plan), [])
        store, level = house[1], Fraction(house[1][1])
        for number, ((sun, need, line), entry) in enumerate(zip(house[0], ledger_of(house, plan))):
            bought, given, filled, taken, lacked, worked = parts_of(plan[number])
            self.assertTrue(filled == 0 or taken == 0)
            _, fill, take, _ = rule_by_rules(keeper, number, house[0][number], level)
            out = 0 if take == "none" else min(store[3], level)
            if lacked > 0:
                most = 0 if line is None else line[1]
                self.assertEqual((bought, given, filled, taken, sum(worked)), (most, 0, 0, out, 0))
                self.assertEqual(lacked, need - sun - most - out * Fraction(*store[5]))
            if take == "none":
                self.assertEqual(taken, 0)
            if fill == "none":
                self.assertEqual(filled, 0)
            # Where sun is left to be spilt nothing is bought, and taken only to be given.
            self.assertTrue(entry[0] == 0 or bought == 0 and (taken == 0 or take == "give"))
            level = entry[2]


class Samples(Days):
    def test_days_of_all_kinds(self):
        for house, keepers in kept_days():
            for keeper in keepers:
                self.hold(house, keeper)

    def test_the_program_finds_no_fault(self):
        for house, keepers in kept_days()[::7]:
            for keeper in keepers:
                self.assertEqual(faults(house, day_of(house, keeper)), [])

    def test_each_word_in_each_kind_of_house(self):
        source = random.Random(29)
        for keeper in PLAIN_KEEPERS:
            for hours, works in [(1, 0), (1, 2), (2, 1), (5, 3), (8, 6), (24, 2)]:
                self.hold(some_day(source, hours, works), keeper)

    def test_keepers_of_many_rules(self):
        source = random.Random(30)
        for rules in range(21):
            for tests in range(7):
                house = some_day(source, 1 + (rules + tests) % 24, tests)
                self.hold(house, some_keeper(source, house, rules, tests))

    def test_the_samples_reach_the_edges(self):
        houses = [house for house, _ in kept_days()]
        self.assertEqual({len(house[0]) for house in houses}, set(range(1, 25)))
        self.assertEqual({len(house[2]) for house in houses}, set(range(7)))
        stores = [house[1] for house in houses]
        for edge in [
            lambda store: store[0] == 0, lambda store: store[0] == store[1] > 0, lambda store: store[0] > store[1] == 0,
            lambda store: store[0] > store[1] > 0, lambda store: store[4] == ONE, lambda store: store[4] != ONE,
            lambda store: store[5] == ONE, lambda store: store[5] != ONE,
        ]:
            self.assertTrue([store for store in stores if edge(store)])
        rules = [rule for _, keepers in kept_days() for keeper in keepers for rule in keeper]
        self.assertEqual({rule[1:] for rule in rules}, {keeper[0][1:] for keeper in PLAIN_KEEPERS})
        self.assertEqual({test[0] for rule in rules for test in rule[0]}, {
            "from", "till", "over", "under", "dear", "cheap", "dark", "sunny"})
        self.assertEqual({len(rule[0]) for rule in rules}, {0, 1, 2, 3, 6})
        numbers = [test[1] for rule in rules for test in rule[0] if test[0] in ("dear", "cheap")]
        self.assertEqual((min(numbers), max(numbers)), (-FULL, FULL))
        levels, outs = [], []
        for house, keepers in kept_days()[:60]:
            for keeper in keepers:
                plan = day_of(house, keeper)
                levels.extend(entry[2] for entry in ledger_of(house, plan))
                outs.extend(parts_of(hour) for hour in plan)
        self.assertTrue([level for level in levels if level.denominator > 1])
        for place in range(5):
            self.assertTrue([hour for hour in outs if hour[place] > 0])


class Tests(Days):
    def held(self, test, hours, store):
        """In which hours the test holds, seen by what its rule, and no rule, does."""
        house = (hours, store, ())
        keeper = (((test,),) + MARKED,)
        self.hold(house, keeper)
        return [parts_of(hour)[2] == 0 for hour in day_of(house, keeper)]

    def at_level(self, test, start, kept=ONE, filled=0):
        """If the test holds behind an hour in which so much is filled; in its own hour it must not be asked."""
        house = (((filled, 0, None), (5, 0, None)), (FULL, start, 9, 9, kept, ONE, 0), ())
        keeper = (((("till", 0),), "sun", "none", "wait"), ((test,),) + MARKED)
        self.hold(house, keeper)
        return parts_of(day_of(house, keeper)[1])[2] == 0

    def test_from_and_till(self):
        hours, store = ((5, 0, None),) * 4, (900, 0, 9, 9, ONE, ONE, 0)
        self.assertEqual(self.held(("from", 2), hours, store), [False, False, True, True])
        self.assertEqual(self.held(("till", 2), hours, store), [True, True, True, False])
        self.assertEqual(self.held(("from", 0), hours, store), [True] * 4)
        self.assertEqual(self.held(("till", 0), hours, store), [True, False, False, False])
        self.assertEqual(self.held(("from", FULL), hours, store), [False] * 4)
        self.assertEqual(self.held(("till", FULL), hours, store), [True] * 4)
        for number in range(24):
            told = self.held(("from", number), ((5, 0, None),) * 24, store)
            self.assertEqual(told, [hour >= number for hour in range(24)])
            told = self.held(("till", number), ((5, 0, None),) * 24, store)
            self.assertEqual(told, [hour <= number for hour in range(24)])

    def test_over_and_under(self):
        for bound in (1, 7, 999990):
            for start in (bound - 1, bound, bound + 1):
                self.assertEqual(self.at_level(("over", bound), start), start > bound)
                self.assertEqual(self.at_level(("under", bound), start), start < bound)
        self.assertFalse(self.at_level(("over", 0), 0))
        self.assertFalse(self.at_level(("under", 0), 0))
        self.assertTrue(self.at_level(("over", 0), 1))
        self.assertTrue(self.at_level(("under", FULL), 999990))

    def test_over_and_under_a_level_that_is_a_fraction(self):
        for kept in [(1, 1000), (1, 2), (999, 1000)]:
            self.assertTrue(self.at_level(("over", 7), 7, kept, 1))
            self.assertFalse(self.at_level(("over", 8), 7, kept, 1))
            self.assertFalse(self.at_level(("under", 7), 7, kept, 1))
            self.assertTrue(self.at_level(("under", 8), 7, kept, 1))
        # Two halves are no fraction any more.
        self.assertFalse(self.at_level(("over", 8), 7, (1, 2), 2))
        self.assertFalse(self.at_level(("under", 8), 7, (1, 2), 2))

    def test_the_level_is_that_ahead_of_the_hour(self):
        hours, store = ((5, 0, None),) * 4, (900, 0, 5, 9, ONE, ONE, 0)
        self.assertEqual(self.held(("over", 4), hours, store), [False, True, True, True])
        self.assertEqual(self.held(("over", 5), hours, store), [False, False, True, True])
        self.assertEqual(self.held(("under", 1), hours, store), [True] * 4)
        house = (((0, 3, None),) * 4, (9, 9, 0, 9, ONE, ONE, 0), ())
        self.day(house, (((("over", 3),), "none", "need", "wait"), ((), "none", "none", "wait")),
                 deeds(taken=3), deeds(taken=3), deeds(lacked=3), deeds(lacked=3))

    def test_dear_and_cheap(self):
        store = (FULL, 0, 9, 9, ONE, ONE, 0)
        for bound in (-FULL, -7, 0, 7, FULL):
            prices = [price for price in (-FULL, bound - 1, bound, bound + 1, FULL) if abs(price) <= FULL]
            hours = tuple((5, 0, (price, 0, 0, 0)) for price in prices) + ((5, 0, None),)
            self.assertEqual(self.held(("dear", bound), hours, store), [price >= bound for price in prices] + [False])
            self.assertEqual(self.held(("cheap", bound), hours, store), [price <= bound for price in prices] + [False])

    def test_the_buy_price_is_looked_at_alone(self):
        hours, store = ((5, 0, (1, 50, 90, 50)), (5, 0, (90, 50, 1, 50))), (900, 0, 9, 9, ONE, ONE, 0)
        self.assertEqual(self.held(("dear", 60), hours, store), [False, True])
        self.assertEqual(self.held(("cheap", 40), hours, store), [True, False])

    def test_dark(self):
        hours = ((5, 0, None), (5, 0, (0, 0, 0, 0)), (5, 0, (7, 9, 7, 9)), (5, 0, None))
        self.assertEqual(self.held(("dark",), hours, (900, 0, 9, 9, ONE, ONE, 0)), [True, False, False, True])

    def test_sunny(self):
        # Where there is no sun to fill, the words now and wait tell which rule is used.
        for need in (0, 1, 7):
            for sun in (need - 1, need, need + 1):
                if sun >= 0:
                    house = (((sun, need, (1, 50, 1, 0)), (0, 0, (1, 50, 1, 0))), NO_STORE, (("wash", 3, 0, 1, 9),))
                    keeper = (((("sunny",),), "none", "none", "now"), ((), "none", "none", "wait"))
                    self.hold(house, keeper)
                    self.assertEqual(day_of(house, keeper)[0][5][0] == (3, 1), sun >= need)


class Rules(Days):
    HOURS = ((5, 2, (4, 9, 3, 9)), (0, 3, None), (1, 3, (8, 9, 3, 9)))
    HOUSE = (HOURS, (20, 6, 9, 9, (9, 10), (4, 5), 1), (("wash", 5, 0, 2, 2),))

    def test_no_rules_and_the_rule_that_is_used_then(self):
        for house in some_days() + some_houses()[::9]:
            told = day_of(house, ())
            self.assertEqual(told, day_of(house, always("sun", "need", "wait")))
            self.assertEqual(told, day_of(house, (((("from", 24),), "line", "give", "now"),)))
            self.assertEqual(told, day_by_rules(house, ()))

    def test_a_rule_of_no_tests_is_always_used(self):
        for keeper in PLAIN_KEEPERS:
            for other in PLAIN_KEEPERS:
                self.assertEqual(day_of(self.HOUSE, keeper + other), day_of(self.HOUSE, keeper))

    def test_the_first_that_fits_is_used(self):
        first = (("till", 0),)
        for one in PLAIN_KEEPERS:
            for other in PLAIN_KEEPERS[::5]:
                keeper = ((first,) + one[0][1:],) + other
                self.hold(self.HOUSE, keeper)
                self.assertEqual(day_of(self.HOUSE, keeper)[0], day_of(self.HOUSE, one)[0])
        keeper = tuple(((("from", hour), ("till", hour)), "none", take, "wait") for hour, take in enumerate(TAKES))
        self.hold(self.HOUSE, keeper)
        self.assertEqual(day_of(self.HOUSE, keeper), day_of(self.HOUSE, keeper[::-1]))

    def test_all_of_six_tests_have_to_hold(self):
        house = (((5, 5, (4, 9, 3, 9)),), (20, 6, 9, 9, ONE, ONE, 1), (("wash", 2, 0, 0, 9),))
        good = (("from", 0), ("till", 0), ("over", 5), ("under", 7), ("dear", 4), ("sunny",))
        bad = (("from", 1), ("dark",), ("over", 6), ("under", 6), ("dear", 5), ("cheap", 3))
        used, unused = deeds(taken=6, given=4, worked=[2]), deeds(taken=2, worked=[2])
        self.day(house, ((good, "none", "give", "now"),), used)
        for place in range(6):
            for test in bad:
                tests = good[:place] + (test,) + good[place + 1:]
                self.day(house, ((tests, "none", "give", "now"),), unused)
        for order in (good[::-1], good[3:] + good[:3], good[:1] * 6):
            self.day(house, ((order, "none", "give", "now"),), used)

    def test_the_twentieth_rule(self):
        never = (((("from", 24),), "line", "none", "now"),)
        house = (((5, 0, None),), (20, 0, 9, 9, ONE, ONE, 0), ())
        self.day(house, never * 19 + always("none"), deeds())
        self.day(house, never * 20, deeds(filled=5))


class Works(Days):
    def test_what_must_be_done_waits_for_the_last_hours(self):
        house = (((0, 0, (1, 50, 0, 0)),) * 5, NO_STORE, (("wash", 5, 1, 3, 2),))
        self.day(house, always("none", works="wait"),
                 *[deeds(bought=part, worked=[part]) for part in (0, 1, 2, 2, 0)])
        self.day(house, always("none", works="now"),
                 *[deeds(bought=part, worked=[part]) for part in (0, 2, 2, 1, 0)])

    def test_amounts_at_the_edge_of_what_can_wait(self):
        hours = ((0, 0, (1, 50, 0, 0)),) * 3
        for amount, asked in [(0, (0, 0, 0)), (1, (0, 0, 1)), (4, (0, 0, 4)), (5, (0, 1, 4)), (8, (0, 4, 4)),
                              (9, (1, 4, 4)), (12, (4, 4, 4)), (13, (4, 4, 4)), (99, (4, 4, 4))]:
            self.day((hours, NO_STORE, (("wash", amount, 0, 2, 4),)), always("none"),
                     *[deeds(bought=part, worked=[part]) for part in asked])

    def test_amounts_by_now(self):
        hours = ((0, 0, (1, 50, 0, 0)),) * 3
        for amount, asked in [(0, (0, 0, 0)), (1, (1, 0, 0)), (4, (4, 0, 0)), (5, (4, 1, 0)), (12, (4, 4, 4)),
                              (13, (4, 4, 4))]:
            self.day((hours, NO_STORE, (("wash", amount, 0, 2, 4),)), always("none", works="now"),
                     *[deeds(bought=part, worked=[part]) for part in asked])

    def test_a_work_that_can_be_done_nowhere(self):
        hours = ((9, 0, (1, 50, 0, 0)),) * 2
        for works in WORKS:
            self.day((hours, NO_STORE, (("wash", 5, 0, 1, 0),)), always("none", works=works),
                     deeds(worked=[0]), deeds(worked=[0]))

    def test_what_was_hindered_is_caught_up_as_far_as_its_most_lets(self):
        # Nothing can be used in hour 0, so the wish of the later ones grows, but not above its most.
        hours = ((0, 0, None),) + ((0, 0, (1, 50, 0, 0)),) * 2
        self.day((hours, NO_STORE, (("wash", 9, 0, 2, 3),)), always("none"),
                 deeds(worked=[0]), deeds(bought=3, worked=[3]), deeds(bought=3, worked=[3]))
        self.day((hours, NO_STORE, (("wash", 5, 0, 2, 4),)), always("none"),
                 deeds(worked=[0]), deeds(bought=1, worked=[1]), deeds(bought=4, worked=[4]))

    def test_in_their_order_as_far_as_what_is_left_reaches(self):
        works = (("b", 4, 0, 0, 4), ("a", 5, 0, 0, 3), ("c", 9, 0, 0, 9), ("d", 2, 0, 0, 2))
        for sun, asked in [(0, (0, 0, 0, 0)), (3, (3, 0, 0, 0)), (4, (4, 0, 0, 0)), (6, (4, 2, 0, 0)),
                           (7, (4, 3, 0, 0)), (10, (4, 3, 3, 0)), (16, (4, 3, 9, 0)), (17, (4, 3, 9, 1)),
                           (18, (4, 3, 9, 2))]:
            self.day((((sun, 0, None),), NO_STORE, works), always("none"), deeds(worked=asked))

    def test_a_work_outside_its_hours_leaves_what_is_left_to_the_next(self):
        works = (("b", 4, 1, 1, 4), ("a", 5, 0, 1, 5))
        self.day((((3, 0, None), (5, 0, None)), NO_STORE, works), always("none", works="now"),
                 deeds(worked=[0, 3]), deeds(worked=[4, 1]))

    def test_the_need_goes_ahead_of_works(self):
        works = (("wash", 4, 0, 0, 4),)
        for need, asked in [(5, deeds(worked=[4])), (6, deeds(worked=[3])), (9, deeds(worked=[0])),
                            (11, deeds(worked=[0], lacked=2))]:
            self.day((((9, need, None),), NO_STORE, works), always("none"), asked)

    def test_works_are_fed_by_sun_store_and_line(self):
        house = (((2, 1, (1, 4, 0, 0)),), (9, 9, 9, 6, ONE, (1, 2), 0), (("wash", 20, 0, 0, 20),))
        self.day(house, always("none", "need"), deeds(bought=4, taken=6, worked=[8]))
        self.day(house, always("none", "none"), deeds(bought=4, worked=[5]))

    def test_each_hour_of_a_work_by_the_rule_of_that_hour(self):
        house = (((0, 0, (1, 9, 0, 0)), (0, 0, (5, 9, 0, 0)), (0, 0, (1, 9, 0, 0))), NO_STORE, (("wash", 7, 0, 2, 4),))
        self.day(house, (((("cheap", 2),), "none", "none", "now"),),
                 deeds(bought=4, worked=[4]), deeds(worked=[0]), deeds(bought=3, worked=[3]))


class Sources(Days):
    STORE = (40, 20, 9, 8, ONE, (1, 2), 0)

    def test_sun_first_then_the_store_then_the_line(self):
        for need, asked in [(0, deeds(given=5)), (3, deeds(given=2)), (5, deeds()), (6, deeds(taken=2)),
                            (9, deeds(taken=8)), (10, deeds(taken=8, bought=1)), (15, deeds(taken=8, bought=6)),
                            (16, deeds(taken=8, bought=6, lacked=1))]:
            self.day((((5, need, (7, 6, 3, 9)),), self.STORE, ()), always("none", "need"), asked)

    def test_nothing_is_taken_by_none(self):
        for need, asked in [(5, deeds()), (6, deeds(bought=1)), (11, deeds(bought=6)), (12, deeds(bought=6, lacked=1))]:
            self.day((((5, need, (7, 6, 3, 9)),), self.STORE, ()), always("none", "none"), asked)

    def test_without_line(self):
        for need, asked in [(4, deeds()), (5, deeds()), (9, deeds(taken=8)), (10, deeds(taken=8, lacked=1))]:
            for take in ("need", "give"):
                self.day((((5, need, None),), self.STORE, ()), always("none", take), asked)
        self.day((((5, 9, None),), self.STORE, ()), always("line", "none"), deeds(lacked=4))

    def test_no_more_is_taken_than_is_in_the_store(self):
        for start, asked in [(0, deeds(lacked=9)), (3, deeds(taken=3, lacked=Fraction(15, 2))),
                             (8, deeds(taken=8, lacked=5)), (40, deeds(taken=8, lacked=5))]:
            for take in ("need", "give"):
                self.day((((0, 9, None),), (40, start, 9, 8, ONE, (1, 2), 0), ()), always("line", take), asked)

    def test_the_store_runs_empty(self):
        self.day((((0, 3, None),) * 4, (9, 9, 0, 5, ONE, (3, 4), 0), ()), always("none", "need"),
                 deeds(taken=4), deeds(taken=4), deeds(taken=1, lacked=Fraction(9, 4)), deeds(lacked=3))

    def test_prices_are_not_looked_at(self):
        for buy in (-FULL, 0, FULL):
            for give in (-FULL, 0, FULL):
                for keeper in PLAIN_KEEPERS:
                    hours = tuple((sun, 4, (buy, 6, give, 3)) for sun in (9, 0, 5))
                    plain = tuple((sun, 4, (1, 6, 1, 3)) for sun in (9, 0, 5))
                    self.assertEqual(day_of((hours, self.STORE, ()), keeper), day_of((plain, self.STORE, ()), keeper))


class Giving(Days):
    def test_the_store_s_goes_ahead_of_what_is_left_of_the_sun(self):
        store = (40, 20, 9, 8, ONE, (1, 2), 0)
        for top, asked in [(0, deeds()), (3, deeds(given=3, taken=6)), (4, deeds(given=4, taken=8)),
                           (5, deeds(given=5, taken=8)), (6, deeds(given=6, taken=8)), (9, deeds(given=6, taken=8))]:
            for fill in FILLS:
                told = asked
                if top == 0 and fill != "none":
                    told = deeds(filled=2) if fill == "sun" else deeds(filled=9, bought=7)
                self.day((((5, 3, (7, 9, 3, top)),), store, ()), always(fill, "give"), told)

    def test_what_is_needed_is_taken_ahead_of_what_is_given(self):
        store = (40, 20, 9, 8, ONE, (1, 2), 0)
        for need, asked in [(1, deeds(given=4, taken=8)), (2, deeds(given=3, taken=8)), (5, deeds(taken=8)),
                            (6, deeds(taken=8, bought=1))]:
            self.day((((1, need, (7, 9, 3, 9)),), store, ()), always("none", "give"), asked)

    def test_need_gives_no_more_than_the_sun(self):
        store = (40, 20, 9, 8, ONE, (1, 2), 0)
        self.day((((5, 3, (7, 9, 3, 9)),), store, ()), always("none", "need"), deeds(given=2))
        self.day((((5, 3, (7, 9, 3, 1)),), store, ()), always("none", "need"), deeds(given=1))
        self.day((((5, 3, (7, 9, 3, 9)),), store, ()), always("none", "none"), deeds(given=2))

    def test_what_can_be_bought_is_not_given(self):
        self.day((((0, 3, (7, 9, 3, 9)),), NO_STORE, ()), always("line", "give"), deeds(bought=3))

    def test_nothing_is_given_in_the_dark(self):
        store = (40, 20, 9, 8, ONE, (1, 2), 0)
        for take in TAKES:
            self.day((((5, 3, None),), store, ()), always("none", take), deeds())

    def test_what_remains_of_the_sun_is_spilt(self):
        house = (((9, 2, (7, 9, 3, 3)),), (2, 0, 9, 8, (1, 2), ONE, 0), ())
        self.day(house, always("sun"), deeds(filled=4, given=3))
        self.assertEqual(ledger_of(house, day_of(house, always("sun")))[0][0], 0)
        house = (((9, 2, (7, 9, 3, 1)),), (2, 0, 9, 8, (1, 2), ONE, 0), ())
        self.day(house, always("sun"), deeds(filled=4, given=1))
        self.assertEqual(ledger_of(house, day_of(house, always("sun")))[0][0], 2)


class Filling(Days):
    def test_nothing_is_filled_where_something_is_taken(self):
        # With "give" the store gives while sun is left, which is then given or spilt.
        store = (40, 20, 9, 8, ONE, ONE, 0)
        for fill in FILLS:
            self.day((((9, 3, (7, 9, 3, 1)),), store, ()), always(fill, "give"), deeds(given=1, taken=1))
            self.day((((1, 3, (7, 9, 3, 9)),), store, ()), always(fill, "need"), deeds(taken=2))

    def test_an_empty_store_takes_nothing_so_it_is_filled(self):
        for take in TAKES:
            for empty in [(40, 0, 9, 8, ONE, ONE, 0), (40, 20, 9, 0, ONE, ONE, 0)]:
                self.day((((9, 3, (7, 9, 3, 0)),), empty, ()), always("sun", take), deeds(filled=6))
                self.day((((9, 3, (7, 9, 3, 0)),), empty, ()), always("line", take), deeds(filled=9, bought=3))
                self.day((((1, 3, (7, 9, 3, 0)),), empty, ()), always("line", take), deeds(filled=7, bought=9))

    def test_the_sun_goes_in_ahead_of_what_is_bought(self):
        for fill, sun, line in [(4, 4, 0), (6, 6, 0), (7, 6, 1), (14, 6, 8), (15, 6, 9), (16, 6, 9), (99, 6, 9)]:
            store = (90, 0, fill, 8, ONE, ONE, 0)
            house = (((9, 3, (7, 9, 3, 99)),), store, ())
            self.day(house, always("line"), deeds(bought=line, filled=sun + line, given=6 - sun))
            self.day(house, always("sun"), deeds(filled=sun, given=6 - sun))
            self.day(house, always("none"), deeds(given=6))

    def test_what_is_used_is_bought_ahead_of_what_is_filled(self):
        store = (90, 0, 50, 8, ONE, ONE, 0)
        for need, asked in [(0, deeds(bought=9, filled=9)), (4, deeds(bought=9, filled=5)), (9, deeds(bought=9)),
                            (10, deeds(bought=9, lacked=1))]:
            self.day((((0, need, (7, 9, 3, 9)),), store, ()), always("line"), asked)

    def test_nothing_is_bought_by_sun_and_none(self):
        store = (90, 0, 50, 8, ONE, ONE, 0)
        for fill in ("none", "sun"):
            self.day((((0, 0, (-7, 9, 3, 9)),), store, ()), always(fill), deeds())

    def test_the_room_is_divided_by_the_share_kept(self):
        for kept, room in [(ONE, 3), ((1, 2), 6), ((2, 3), Fraction(9, 2)), ((9, 10), Fraction(10, 3)),
                           ((3, 1000), 1000)]:
            store = (10, 7, 900, 8, kept, ONE, 0)
            most = min(room, 900)
            for fill in ("sun", "line"):
                self.day((((2000, 0, (7, 9, 3, 9)),), store, ()), always(fill), deeds(filled=most, given=9))
            self.day((((0, 0, (7, 2000, 3, 9)),), store, ()), always("line"), deeds(bought=most, filled=most))
            self.day((((1, 0, (7, 2000, 3, 9)),), store, ()), always("line"), deeds(bought=most - 1, filled=most))
            level = ledger_of((((2000, 0, None),), store, ()), (deeds(filled=most),))[0][2]
            self.assertEqual(level == 10, room <= 900)

    def test_a_full_store_and_one_of_no_size(self):
        for store in [(10, 10, 9, 8, (1, 2), ONE, 0), (0, 0, 9, 8, (1, 2), ONE, 0)]:
            for fill in FILLS:
                self.day((((5, 0, (7, 9, 3, 2)),), store, ()), always(fill), deeds(given=2))
                self.day((((5, 0, None),), store, ()), always(fill), deeds())

    def test_a_store_into_which_nothing_can_be_filled(self):
        for fill in FILLS:
            self.day((((5, 0, (7, 9, 3, 2)),), (10, 0, 0, 8, ONE, ONE, 0), ()), always(fill), deeds(given=2))

    def test_hour_by_hour_till_it_is_full(self):
        house = (((4, 0, None),) * 5, (5, 0, 3, 9, (1, 2), ONE, 0), ())
        self.day(house, always("sun"), deeds(filled=3), deeds(filled=3), deeds(filled=3), deeds(filled=1), deeds())


class Own(Days):
    def test_what_is_handed_in_stays_and_what_was_told_too(self):
        days = [(house, keeper) for house, keepers in kept_days()[::11] for keeper in keepers]
        before = copy.deepcopy(days)
        told = [day_of(house, keeper) for house, keeper in days]
        kept = copy.deepcopy(told)
        again = [day_of(house, keeper) for house, keeper in reversed(days)]
        self.assertEqual(told, again[::-1])
        self.assertEqual(told, kept)
        self.assertEqual(days, before)

    def test_somewhat_beyond_the_bounds_nothing_is_refused(self):
        source = random.Random(31)
        for hours, works in [(25, 6), (30, 8), (26, 0)]:
            house = some_day(source, hours, works)
            for keeper in [some_keeper(source, house, 25, 8), (((("from", 2000000),), "sun", "need", "wait"),), ()]:
                self.assertEqual(day_of(house, keeper), day_by_rules(house, keeper))
        self.assertEqual(day_of(((), (9, 5, 9, 9, ONE, ONE, 7), ()), ()), ())
        # A store that holds more than its size has no room.
        self.assertEqual(day_of((((5, 0, None),), (4, 6, 9, 9, ONE, ONE, 0), ()), ()), (deeds(),))

    def test_fractions_grow_as_they_come(self):
        store = (1000, 500, 900, 900, (997, 1000), (991, 997), 0)
        house = (((7, 0, None), (0, 5, None)) * 12, store, ())
        self.hold(house, ())
        self.assertGreater(ledger_of(house, day_of(house, ()))[-1][2].denominator, 1000)


if __name__ == "__main__":
    unittest.main()
