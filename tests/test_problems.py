"""Points 18 to 20: mixes and their sums; rests and floors of a problem's prices."""

import copy
from fractions import Fraction
import random
import unittest

from samples import (
    NUMBERS, is_mix_by_rules, kinds, longest_number, pair, paired, problem_floor, rests_by_rules, some_problems,
    some_triple, sum_by_rules,
)
from sunstore.problems import floor, is_mix, rests, sum_of
from sunstore.triples import ahead

NOUGHT = (0, 1)
FREE = (NOUGHT, NOUGHT, NOUGHT)
TRIPLE = (tuple, [(tuple, [int, int])] * 3)


def whole(*numbers):
    return [(number, 1) for number in numbers]


def triple(*numbers):
    return tuple(pair(Fraction(number)) for number in numbers)


def mixed(source, choices, count, number):
    """(rows, rights, tops, mix): a problem's parts that are made round a mix."""
    mix = [abs(Fraction(number(source))) * source.choice([0, 1, 1]) for _ in range(choices)]
    rows, rights = [], []
    for _ in range(count):
        row = [Fraction(number(source)) for _ in range(choices)]
        right = sum(one * part for one, part in zip(row, mix))
        sign = -1 if right < 0 else 1
        rows.append([pair(sign * one) for one in row])
        rights.append(pair(Fraction(sign * right)))
    tops = [source.choice([None, part, part + abs(Fraction(number(source)))]) for part in mix]
    return rows, rights, [None if top is None else pair(top) for top in tops], [pair(part) for part in mix]


def some_mixed():
    source = random.Random(19)
    made = []
    for number in NUMBERS:
        for choices, count in [(1, 0), (1, 1), (3, 0), (3, 2), (7, 4), (20, 10)]:
            made.extend(mixed(source, choices, count, number) for _ in range(5))
    made.append(mixed(source, 3, 2, longest_number))
    return made


def bearing(source, costs, rows, rights, tops):
    """Prices of a problem that have a floor, if some are soon found; else None."""
    for _ in range(20):
        prices = [some_triple(source, source.choice(NUMBERS)) for _ in rows]
        if problem_floor(costs, rows, rights, tops, prices) is not None:
            return prices
    return None


class Mixes(unittest.TestCase):
    def test_by_hand(self):
        rows = [whole(1, 2, 0), whole(0, -1, 1)]
        rights = whole(4, 0)
        tops = [None, (1, 1), (3, 2)]
        for mix, asked in [
            (whole(4, 0, 0), True), (whole(2, 1, 1), True), ([(3, 1), (1, 2), (1, 2)], True),
            (whole(4, 0, 1), False), (whole(3, 0, 0), False), (whole(0, 2, 2), False), (whole(6, -1, -1), False),
            ([(1, 1), (3, 2), (3, 2)], False),
        ]:
            self.assertIs(is_mix(rows, rights, tops, mix), asked, mix)

    def test_without_rows(self):
        tops = [None, (0, 1), (1, 3)]
        for mix, asked in [
            (whole(0, 0, 0), True), ([(10 ** 399, 1), NOUGHT, (1, 3)], True), ([NOUGHT, NOUGHT, (334, 1000)], False),
            ([(-1, 10 ** 399), NOUGHT, NOUGHT], False), ([NOUGHT, (1, 10 ** 399), NOUGHT], False),
            ([NOUGHT, (-1, 1), NOUGHT], False), ([NOUGHT, NOUGHT, (-1, 3)], False),
        ]:
            self.assertIs(is_mix([], [], tops, mix), asked, mix)

    def test_made_mixes(self):
        for rows, rights, tops, mix in some_mixed():
            self.assertIs(is_mix(rows, rights, tops, mix), True)

    def test_one_part_changed(self):
        little = Fraction(1, 10 ** 70)
        seen = set()
        for rows, rights, tops, mix in some_mixed():
            for choice, part in enumerate(mix):
                one = Fraction(*part)
                for other in (one + little, one - little, one + 1, -one, -little, Fraction(0)):
                    changed = mix[:choice] + [pair(other)] + mix[choice + 1:]
                    asked = is_mix_by_rules(rows, rights, tops, changed)
                    self.assertIs(is_mix(rows, rights, tops, changed), asked)
                    seen.add(asked)
        self.assertEqual(seen, {True, False})

    def test_a_part_below_nought_or_above_its_top_where_all_rows_hold(self):
        rows = [whole(1, -1, 0), whole(0, 0, 1)]
        self.assertIs(is_mix(rows, whole(0, 2), [None, None, (2, 1)], whole(5, 5, 2)), True)
        self.assertIs(is_mix(rows, whole(0, 2), [None, None, (2, 1)], whole(-5, -5, 2)), False)
        self.assertIs(is_mix(rows, whole(0, 2), [None, (5, 1), (2, 1)], whole(5, 5, 2)), True)
        self.assertIs(is_mix(rows, whole(0, 2), [None, (49, 10), (2, 1)], whole(5, 5, 2)), False)
        self.assertIs(is_mix(rows, whole(0, 2), [None, None, (2 * 10 ** 9 - 1, 10 ** 9)], whole(5, 5, 2)), False)

    def test_one_right_changed(self):
        for rows, rights, tops, mix in some_mixed():
            for place, right in enumerate(rights):
                more = pair(Fraction(*right) + Fraction(1, 10 ** 70))
                self.assertIs(is_mix(rows, rights[:place] + [more] + rights[place + 1:], tops, mix), False)


class Sums(unittest.TestCase):
    def test_by_hand(self):
        costs = [triple(1, 0, -3), triple(0, Fraction(1, 2), 5), triple(-2, 0, 0)]
        self.assertEqual(sum_of(costs, [(1, 3), (4, 1), (1, 6)]), triple(0, 2, 19))
        self.assertEqual(sum_of(costs, whole(0, 0, 0)), FREE)
        self.assertEqual(sum_of([triple(1, 2, 3)], [(-1, 2)]), triple(Fraction(-1, 2), -1, Fraction(-3, 2)))

    def test_of_all_kinds(self):
        source = random.Random(20)
        for costs, rows, rights, tops, first in some_problems():
            mix = [some_triple(source, source.choice(NUMBERS))[0] for _ in costs]
            told = sum_of(costs, mix)
            self.assertEqual(told, paired(sum_by_rules(costs, mix)))
            self.assertEqual(kinds(told), TRIPLE)


class Rests(unittest.TestCase):
    def test_by_hand(self):
        costs = [triple(1, 0, 4), triple(0, 0, -1), triple(0, 1, 0)]
        rows = [whole(1, 0, 3), [(1, 2), (-1, 1), NOUGHT]]
        prices = [triple(1, 0, 2), triple(0, 4, 6)]
        self.assertEqual(rests(costs, rows, prices), [triple(0, -2, -1), triple(0, 4, 5), triple(-3, 1, -6)])

    def test_without_rows_they_are_the_costs(self):
        costs = [triple(1, -1, 0), triple(0, 2, 3)]
        told = rests(costs, [], [])
        self.assertEqual(told, costs)
        told.append("more")
        self.assertEqual(len(costs), 2)

    def test_of_all_kinds(self):
        source = random.Random(21)
        for costs, rows, rights, tops, first in some_problems():
            prices = [some_triple(source, source.choice(NUMBERS)) for _ in rows]
            told = rests(costs, rows, prices)
            self.assertEqual(told, [paired(rest) for rest in rests_by_rules(costs, rows, prices)])
            self.assertEqual(kinds(told), (list, [TRIPLE] * len(costs)))


class Floors(unittest.TestCase):
    def test_by_hand(self):
        costs = [triple(0, 0, -5), triple(0, 0, 0), triple(1, 0, 0)]
        rows = [whole(1, 1, -1)]
        rights = whole(6)
        # For coins alone, the rests are -5 less the price, less the price, and (1, 0, 0) and the price.
        for tops, price, asked in [
            ([(4, 1), None, None], triple(0, 0, 0), triple(0, 0, -20)),
            ([(4, 1), None, None], triple(0, 0, -2), triple(0, 0, -24)),
            ([(4, 1), None, None], triple(0, 0, -5), triple(0, 0, -30)),
            ([None, None, None], triple(0, 0, -5), triple(0, 0, -30)),
            ([None, None, None], triple(0, 0, -4), None),
            ([None, (7, 1), None], triple(0, 0, 1), None),
            ([(4, 1), (7, 1), None], triple(0, 0, 1), triple(0, 0, 6 - 24 - 7)),
            ([(4, 1), None, None], triple(0, 0, 1), None),
            ([(4, 1), None, (1, 1)], triple(-2, 0, 0), triple(-13, 0, 0)),
            ([(4, 1), None, None], triple(-2, 0, 0), None),
            ([NOUGHT, None, None], triple(0, 0, 0), triple(0, 0, 0)),
        ]:
            told = floor(costs, rows, rights, tops, [price])
            self.assertEqual(told, asked, (tops, price))

    def test_a_choice_without_a_top(self):
        for rest, asked in [
            (triple(0, 0, 0), FREE), (triple(0, 0, 1), FREE), (triple(0, 1, -5), FREE), (triple(1, -5, -5), FREE),
            (triple(0, 0, Fraction(-1, 10 ** 399)), None), (triple(0, -1, 10 ** 60), None), (triple(-1, 5, 5), None),
        ]:
            self.assertEqual(floor([triple(0, 0, 0), rest], [], [], [(9, 1), None], []), asked)

    def test_a_choice_with_a_top(self):
        for rest, ahead_of_nought in [
            (triple(0, 0, 0), False), (triple(0, 0, 1), False), (triple(0, 1, -5), False), (triple(1, -5, -5), False),
            (triple(0, 0, -1), True), (triple(0, -1, 5), True), (triple(-1, 5, 5), True),
        ]:
            asked = tuple((3 * one[0], 1) for one in rest) if ahead_of_nought else FREE
            self.assertEqual(floor([rest, triple(0, 0, 0)], [], [], [(3, 1), None], []), asked)

    def test_of_all_kinds(self):
        source = random.Random(22)
        seen = [0, 0]
        for problem in some_problems():
            costs, rows, rights, tops, first = problem
            for _ in range(2):
                prices = [some_triple(source, source.choice(NUMBERS)) for _ in rows]
                told = floor(costs, rows, rights, tops, prices)
                asked = problem_floor(costs, rows, rights, tops, prices)
                self.assertEqual(told, None if asked is None else paired(asked))
                seen[told is None] += 1
                if told is not None:
                    self.assertEqual(kinds(told), TRIPLE)
        self.assertGreater(min(seen), 50)

    def test_no_mix_s_sum_is_ahead_of_it(self):
        source = random.Random(23)
        met = 0
        for rows, rights, tops, mix in some_mixed():
            costs = [some_triple(source, source.choice(NUMBERS)) for _ in mix]
            prices = bearing(source, costs, rows, rights, tops)
            if prices is not None:
                met += 1
                self.assertFalse(ahead(sum_of(costs, mix), floor(costs, rows, rights, tops, prices)))
        self.assertGreater(met, 20)


class Own(unittest.TestCase):
    def test_lists_handed_in_stay_and_what_was_told_stays(self):
        source = random.Random(24)
        for costs, rows, rights, tops, first in some_problems()[::4]:
            prices = [some_triple(source, NUMBERS[0]) for _ in rows]
            mix = [pair(abs(Fraction(NUMBERS[1](source)))) for _ in costs]
            handed = (costs, rows, rights, tops, prices, mix)
            before = copy.deepcopy(handed)
            told = rests(costs, rows, prices)
            kept = list(told)
            others = (is_mix(rows, rights, tops, mix), sum_of(costs, mix), floor(costs, rows, rights, tops, prices))
            self.assertEqual(handed, before)
            told[0] = "changed"
            told.append("more")
            self.assertEqual(handed, before)
            self.assertEqual(rests(costs, rows, prices), kept)
            told = rests(costs, rows, prices)
            for part in handed:
                part.append("more")
                part[0] = "changed"
            self.assertEqual(told, kept)
            costs, rows, rights, tops, prices, mix = before
            again = (is_mix(rows, rights, tops, mix), sum_of(costs, mix), floor(costs, rows, rights, tops, prices))
            self.assertEqual(again, others)


if __name__ == "__main__":
    unittest.main()
