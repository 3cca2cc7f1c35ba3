"""Points 2, 3 and 4 over the whole program: what it promises of all its parts together."""

import copy
from fractions import Fraction
import random
import unittest

from samples import (
    PLAIN_KEEPERS, broken_number, costs_of, floor_by_rules, good_plan, keeper_text, kept_days, kinds, parts_of,
    some_day, some_houses, some_keepers, some_prices, some_problems, text_of,
)
from sunstore import errors
from sunstore.best import best_plan
from sunstore.costs import costs
from sunstore.desk import Desk
from sunstore.floors import floor_of
from sunstore.fractions import fraction, over, read_fraction, written
from sunstore.keepers import day_of
from sunstore.ledgers import faults, ledger
from sunstore.problems import floor, is_mix, rests, sum_of
from sunstore.ranks import ranks
from sunstore.reading import read
from sunstore.rules import read_keeper, shown_keeper
from sunstore.showing import shown
from sunstore.solving import solved
from sunstore.triples import added, ahead, multiplied

FREE = ((0, 1), (0, 1), (0, 1))
ASKED_LINES = ["show", "best", "ranks", "keeper a", "day a", "costs a", "raised 0 3",
               "rule b when dark fill none take need works now", "drop b"]


def hours_sum_up(house, plan):
    """True where in each hour what comes in, and was in the store, is what goes out, is lost, and is in it then."""
    level = Fraction(house[1][1])
    for (sun, need, _), deeds, entry in zip(house[0], plan, ledger(house, plan)):
        bought, given, _, _, lacked, worked = parts_of(deeds)
        spilt, lost, behind = [Fraction(*one) for one in entry]
        if sun + bought + lacked + level != need + given + sum(worked) + spilt + lost + behind:
            return False
        level = behind
    return True


class Promise(unittest.TestCase):
    def test_no_keeper_s_day_has_less_costs_than_the_best_plan(self):
        for house, keepers in kept_days()[::2]:
            plan, prices = best_plan(house)
            least, lowest = costs(house, plan), floor_of(house, prices)
            self.assertEqual(least, lowest)
            self.assertEqual(tuple(Fraction(*one) for one in least), costs_of(house, plan))
            self.assertEqual(tuple(Fraction(*one) for one in lowest), floor_by_rules(house, prices))
            self.assertEqual(faults(house, plan), [])
            self.assertFalse([deeds for deeds in plan if deeds[2][0] > 0 and deeds[3][0] > 0])
            for keeper in keepers:
                told = costs(house, day_of(house, keeper))
                self.assertFalse(ahead(told, least))
                self.assertFalse(ahead(told, lowest))

    def test_no_floor_is_behind_the_costs_of_a_keeper_s_day(self):
        source = random.Random(45)
        for house, keepers in kept_days()[1::3]:
            lowest = [floor_of(house, some_prices(source, house, broken_number)) for _ in range(3)]
            for keeper in keepers:
                told = costs(house, day_of(house, keeper))
                self.assertFalse([one for one in lowest if ahead(told, one)])

    def test_in_each_hour_all_sums_up(self):
        for house, keepers in kept_days()[::3]:
            self.assertTrue(hours_sum_up(house, best_plan(house)[0]))
            for keeper in keepers:
                self.assertTrue(hours_sum_up(house, day_of(house, keeper)))

    def test_nothing_lacks_where_a_plan_without_faults_lacks_nothing(self):
        source = random.Random(46)
        seen = 0
        for number in range(150):
            house = some_day(source, 1 + number % 5, number % 2)
            plans = [day_of(house, keeper) for keeper in PLAIN_KEEPERS] + [good_plan(source, house) for _ in range(4)]
            least = min(sum(Fraction(*deeds[4]) for deeds in plan) for plan in plans)
            told = sum(Fraction(*deeds[4]) for deeds in best_plan(house)[0])
            self.assertLessEqual(told, least)
            seen += least == 0
        self.assertGreater(seen, 30)

    def test_the_best_of_a_house_is_a_keeper_s_day_where_nothing_else_can_be(self):
        house = (((3, 5, None),), (0, 0, 0, 0, (1, 1), (1, 1), 0), ())
        self.assertEqual(best_plan(house)[0], day_of(house, ()))
        self.assertEqual(ranks(house, [()]), [(0, ((2, 1), (0, 1), (0, 1)), FREE)])

    def test_each_house_and_each_keeper_has_one_text(self):
        for house, keepers in kept_days():
            self.assertEqual(read(shown(house)), house)
            self.assertEqual(shown(read(text_of(house))), text_of(house))
            for keeper in keepers:
                self.assertEqual(read_keeper(shown_keeper(keeper)), keeper)
                self.assertEqual(shown_keeper(read_keeper(keeper_text(keeper))), keeper_text(keeper))

    def test_a_desk_tells_what_the_parts_tell(self):
        source = random.Random(47)
        for number in range(12):
            house = some_day(source, 1 + number, number % 4)
            keepers = some_keepers(source, house)[1:]
            desk = Desk(shown(house))
            for name, keeper in zip("dcba", keepers):
                for line in shown_keeper(keeper):
                    desk.say(f"rule {name} {line}")
            self.assertEqual(read(desk.say("show")), house)
            for name, keeper in zip("dcba", keepers):
                self.assertEqual(read_keeper(desk.say("keeper " + name)), keeper)
                told = [line.split(" ")[2:] for line in desk.say("day " + name)]
                plan = tuple(tuple(read_fraction(one) for one in line) for line in told)
                self.assertEqual(tuple(line[:5] + (line[5:],) for line in plan), day_of(house, keeper))
            self.assertEqual(desk.say("best"), [" ".join(written(one) for one in costs(house, best_plan(house)[0]))])
            told = [("dcba"[entry[0]],) + entry[1] + entry[2] for entry in ranks(house, keepers)]
            self.assertEqual([line.split(" ") for line in desk.say("ranks")],
                             [[name] + [written(one) for one in parts] for name, *parts in told])


def all_calls():
    """(function, arguments): calls of every function of the program that is handed a list or a tuple."""
    source = random.Random(48)
    calls = []
    for house in some_houses()[::40] + [some_day(source, 4, 2), some_day(source, 3, 0)]:
        keepers = some_keepers(source, house)
        plan = good_plan(source, house)
        prices = some_prices(source, house, broken_number)
        calls.extend([
            (read, [text_of(house)]), (shown, [house]), (ledger, [house, plan]), (faults, [house, plan]),
            (costs, [house, plan]), (floor_of, [house, prices]), (ranks, [house, keepers]), (best_plan, [house]),
        ])
        calls.extend((day_of, [house, keeper]) for keeper in keepers)
        calls.extend((shown_keeper, [keeper]) for keeper in keepers)
        calls.extend((read_keeper, [keeper_text(keeper)]) for keeper in keepers)
    for weights, rows, rights, tops, first in some_problems()[::25]:
        mix = [(0, 1)] * len(weights)
        prices = [FREE] * len(rows)
        calls.extend([
            (solved, [weights, rows, rights, tops, first]), (is_mix, [rows, rights, tops, mix]),
            (sum_of, [weights, mix]), (rests, [weights, rows, prices]), (floor, [weights, rows, rights, tops, prices]),
        ])
    triple = ((1, 2), (-3, 1), (0, 1))
    return calls + [(added, [triple, FREE]), (multiplied, [triple, (2, 3)]), (ahead, [triple, FREE])]


def spoil(value):
    """Changes each list in a value."""
    if type(value) in (list, tuple):
        for part in value:
            spoil(part)
    if type(value) is list:
        value.append("more")
        value[0] = "changed"


class Own(unittest.TestCase):
    def test_nothing_that_is_handed_in_is_changed(self):
        for function, arguments in all_calls():
            before = copy.deepcopy(arguments)
            function(*arguments)
            self.assertEqual(arguments, before, function.__name__)
            self.assertEqual(kinds(arguments), kinds(before), function.__name__)

    def test_what_is_told_is_the_asker_s_own(self):
        calls = all_calls()
        told = [function(*arguments) for function, arguments in calls]
        kept = copy.deepcopy(told)
        again = [function(*arguments) for function, arguments in calls]
        # A change of what was told reaches neither what was handed in nor what is told behind it.
        for value in again:
            spoil(value)
        self.assertEqual(told, kept)
        self.assertEqual([function(*arguments) for function, arguments in calls], kept)

    def test_what_is_done_to_it_afterwards_changes_nothing(self):
        for function, shared in all_calls():
            arguments = copy.deepcopy(shared)
            told = function(*arguments)
            kept = copy.deepcopy(told)
            spoil(arguments)
            self.assertEqual(told, kept, function.__name__)

    def test_a_desk_s_lists(self):
        lines = text_of(some_day(random.Random(49), 3, 1))
        first, second = Desk(list(lines)), Desk(list(lines))
        for desk in (first, second):
            self.assertEqual(desk.say("rule a when fill sun take need works wait"), ["ok"])
        for line in ASKED_LINES:
            spoil(first.say(line))
            second.say(line)
        self.assertEqual([first.say(line) for line in ASKED_LINES], [second.say(line) for line in ASKED_LINES])


class Refusals(unittest.TestCase):
    def test_every_refusal_stands_under_the_base_alone(self):
        day = Desk(["store 0 0 0 0 1 1 0", "hour 0 0 dark"])
        bad = (((((-1, 1), (0, 1), (0, 1))),), (FREE,), ())
        house = (((0, 0, None),), (0, 0, 0, 0, (1, 1), (1, 1), 0), ())
        for refusal, field, value, call in [
            (errors.NoFraction, "top", 7, lambda: fraction(7, 0)),
            (errors.NoFraction, "top", (1, 2), lambda: over((1, 2), (0, 1))),
            (errors.NoText, "place", 1, lambda: read(["store 0 0 0 0 1 1 0"])),
            (errors.NoText, "place", 0, lambda: read_keeper(["x"])),
            (errors.NoText, "place", 0, lambda: Desk(["x"])),
            (errors.NoPrices, "hour", 0, lambda: floor_of(house, bad)),
            (errors.NoKeeper, "name", "eve", lambda: day.say("day eve")),
            (errors.NoLine, "line", "day Eve", lambda: day.say("day Eve")),
        ]:
            with self.assertRaises(errors.StoreError) as taken:
                call()
            self.assertIs(type(taken.exception), refusal)
            self.assertEqual(getattr(taken.exception, field), value)
            self.assertEqual(refusal.__bases__, (errors.StoreError,))


if __name__ == "__main__":
    unittest.main()
