"""Point 21: problems are answered by a best mix and prices that bear it out, or by a way without end."""

import copy
from fractions import Fraction
import random
import signal
import unittest

from samples import (
    NUMBERS, broken_number, is_mix_by_rules, kinds, pair, paired, problem_floor, small_number, some_problem,
    some_problems, sum_by_rules,
)
from sunstore.problems import floor, is_mix, sum_of
from sunstore.solving import solved

NOUGHT = (0, 1)
FRACTION = (tuple, [int, int])
TRIPLE = (tuple, [FRACTION] * 3)


def triple(*numbers):
    return tuple(pair(Fraction(number)) for number in numbers)


def problem_of(costs, rows, rights, tops, first):
    """A problem of plain numbers; a cost is one number, its coins, or a tuple of three."""
    triples = [triple(*one) if isinstance(one, tuple) else triple(0, 0, one) for one in costs]
    told = [[pair(Fraction(number)) for number in row] for row in rows]
    heights = [None if top is None else pair(Fraction(top)) for top in tops]
    return (triples, told, [pair(Fraction(right)) for right in rights], heights, list(first))


# Two rows in which to take the choice with the least rest, each time, comes round and round (Beale's, Chvatal's).
ROUNDS = [
    ([-3, 80, -2, 24, 0, 0], [[1, -32, -4, 36, 4, 0], [2, -48, -2, 12, 0, 4]]),
    ([-20, 114, 18, 48, 0, 0], [[1, -11, -5, 18, 2, 0], [1, -3, -1, 2, 0, 2]]),
]

# (costs, rows, first): here the same comes of taking another one than the least of the choices that stop at once.
TIES = [
    ([0, 3, -2, 1, 2, 2, -1, 0, 1], [[0, -2, 1, 3, 2, -3, 1, 1, 2], [1, -1, 2, -1, 2, -1, -3, 0, 1]], [7, 0]),
    ([0, -1, 1, -2, 0, 2, 1, 2, 1], [[-2, -3, 3, -1, 1, -1, -3, 2, 0], [2, 3, 1, 2, 0, -1, -2, 2, 1]], [4, 8]),
    ([0, 3, 1, -4, 3, -3], [[1, 1, 0, 4, -3, -5], [0, 2, 1, 2, -2, -4]], [0, 2]),
    ([2, 0, -5, 2, -2, 3], [[-1, 1, 4, 0, -1, -3], [-4, 0, 1, 1, -5, 4]], [1, 3]),
    ([2, 0, -3, 0, 0, -1, -3, -3, -2], [[3, 0, 2, 2, 1, 3, -1, 3, 3], [-2, 1, 2, 3, 0, -1, 2, 0, -2]], [4, 1]),
]


def round_problems():
    """Those, with first choices ahead or behind, with tops and without, with the costs in each part."""
    for costs, rows in ROUNDS:
        for ahead in (True, False):
            for top in (None, 1, Fraction(1, 7)):
                for first_top in (0, None, 5):
                    for part in range(3):
                        parts = [(0,) * part + (one,) + (0,) * (2 - part) for one in costs]
                        frees, tops, units = [(0, 0, 0)] * 2, [first_top] * 2, [[1, 0], [0, 1]]
                        if ahead:
                            yield problem_of(frees + parts, [one + row for one, row in zip(units, rows)], [0, 0],
                                             tops + [top] * 6, [0, 1])
                        else:
                            yield problem_of(parts + frees, [row + one for one, row in zip(units, rows)], [0, 0],
                                             [top] * 6 + tops, [6, 7])


def too_long(number, frame):
    raise AssertionError("a problem doesn't come to an end")


class Answers(unittest.TestCase):
    def hold(self, problem):
        """The answer's word, where it is one that the document lets stand."""
        costs, rows, rights, tops, first = problem
        before = copy.deepcopy(problem)
        told = solved(costs, rows, rights, tops, first)
        self.assertEqual(problem, before)
        word, mix, other = told
        self.assertIn(word, ("best", "endless"))
        self.assertTrue(is_mix_by_rules(rows, rights, tops, mix))
        if word == "best":
            self.assertEqual(kinds(told), (tuple, [str, (list, [FRACTION] * len(costs)), (list, [TRIPLE] * len(rows))]))
            self.assertEqual(sum_by_rules(costs, mix), problem_floor(costs, rows, rights, tops, other))
        else:
            self.assertEqual(kinds(told), (tuple, [str] + [(list, [FRACTION] * len(costs))] * 2))
            self.assertTrue(is_mix_by_rules(rows, [NOUGHT] * len(rows), [top and NOUGHT for top in tops], other))
            self.assertLess(sum_by_rules(costs, other), (0, 0, 0))
        for top, bottom in mix + (other if word == "endless" else [one for price in other for one in price]):
            self.assertEqual(pair(Fraction(top, bottom)), (top, bottom))
        return told

    def best(self, problem, asked):
        told = self.hold(problem)
        self.assertEqual(told[0], "best")
        self.assertEqual(sum_by_rules(problem[0], told[1]), tuple(Fraction(one) for one in asked))

    def test_by_hand(self):
        # The most of 3 x + 2 y, where x + y is at most 4, x + 3 y at most 6, x at most 3.
        self.best(problem_of([-3, -2, 0, 0], [[1, 1, 1, 0], [1, 3, 0, 1]], [4, 6], [3, None, None, None], [2, 3]),
                  (0, 0, -11))
        # Two sources of 5 and 9 for needs of 4 and 8 at prices 2, 3, 1, 7; what is not met costs 100.
        self.best(problem_of(
            [2, 3, 1, 7, 0, 0, 100, 100],
            [[1, 1, 0, 0, 1, 0, 0, 0], [0, 0, 1, 1, 0, 1, 0, 0], [1, 0, 1, 0, 0, 0, 1, 0], [0, 1, 0, 1, 0, 0, 0, 1]],
            [5, 9, 4, 8], [None] * 8, [4, 5, 6, 7],
        ), (0, 0, 15 + 4 + 21))

    def test_one_choice_without_rows(self):
        for cost, top, asked in [
            (triple(0, 0, -3), (5, 1), ("best", [(5, 1)], [])), (triple(0, 0, 3), (5, 1), ("best", [NOUGHT], [])),
            (triple(0, 0, 3), None, ("best", [NOUGHT], [])), (triple(0, -1, 3), (5, 1), ("best", [(5, 1)], [])),
            (triple(1, -1, -3), (5, 1), ("best", [NOUGHT], [])), (triple(-1, 9, 9), (1, 9), ("best", [(1, 9)], [])),
            (triple(0, 0, -3), NOUGHT, ("best", [NOUGHT], [])),
        ]:
            self.assertEqual(solved([cost], [], [], [top], []), asked)
        for cost in (triple(0, 0, -3), triple(0, -1, 3), triple(-1, 9, 9)):
            self.assertEqual(self.hold(([cost], [], [], [None], []))[0], "endless")

    def test_one_choice_and_one_row(self):
        for cost in (triple(0, 0, -3), triple(0, 2, 3), triple(0, 0, 0)):
            for top in (None, (7, 2), (4, 1)):
                told = self.hold(([cost], [[(1, 1)]], [(7, 2)], [top], [0]))
                self.assertEqual(told[:2], ("best", [(7, 2)]))

    def test_the_parts_count_in_their_order(self):
        row = [[1, 1, 1]]
        for costs, asked in [
            ([(1, -9, -9), (0, 5, 5), (0, 0, 9)], (0, 0, 36)),
            ([(0, 1, -9), (0, 0, 5), (0, 0, 6)], (0, 0, 20)),
            ([(-1, 9, 9), (0, -9, -9), (0, 0, -9)], (-4, 36, 36)),
            ([(0, 0, -1), (0, -1, 90), (0, -1, 89)], (0, -4, 356)),
        ]:
            self.best(problem_of(costs, row, [4], [None, None, None], [0]), asked)

    def test_tops_of_nought_and_rights_of_nought(self):
        self.best(problem_of([-9, -1, 0], [[1, 1, 1]], [4], [0, None, None], [2]), (0, 0, -4))
        self.best(problem_of([-9, -1, 0], [[-1, 1, 1]], [0], [None, 3, 0], [2]), (0, 0, -30))
        self.best(problem_of([-9, -1, 0], [[1, 1, 1]], [0], [None, None, None], [2]), (0, 0, 0))
        self.best(problem_of([-9, -1, 5], [[1, -1, 1]], [0], [3, 2, 0], [2]), (0, 0, -20))

    def test_first_choices_that_are_already_full(self):
        self.best(problem_of([5, 0, 0], [[1, 1, -1]], [4], [4, 3, 9], [0]), (0, 0, 5))
        self.best(problem_of([-5, 0, 0], [[1, 1, -1]], [4], [4, 3, 9], [0]), (0, 0, -20))

    def test_choices_that_come_back_from_their_top(self):
        # The first one looks best, goes to its top, and has to leave it again for the others.
        rows = [[1, 1, 0, 1, 0], [1, 0, 1, 0, 1]]
        self.best(problem_of([-5, -4, -4, 0, 0], rows, [3, 3], [3, None, None, None, None], [3, 4]), (0, 0, -24))

    def test_without_end_by_hand(self):
        for problem in [
            problem_of([-1, 0, 0], [[1, -1, 1]], [4], [None, None, None], [2]),
            problem_of([(0, -1, 5), (0, 0, 9), 0], [[2, -3, 1]], [0], [None, None, 0], [2]),
            problem_of([(0, 0, 5), (-1, 0, 0), 0], [[2, -3, 1]], [1], [7, None, None], [2]),
            problem_of([-1, 1, 0, 0], [[1, -2, 1, 0], [-1, 1, 0, 1]], [2, 2], [None] * 4, [2, 3]),
        ]:
            self.assertEqual(self.hold(problem)[0], "endless")

    def test_just_not_without_end(self):
        self.best(problem_of([-1, 0, 0], [[1, -1, 1]], [4], [None, 10, None], [2]), (0, 0, -14))
        self.best(problem_of([-1, 1, 0], [[1, -1, 1]], [4], [None, None, None], [2]), (0, 0, -4))
        self.best(problem_of([(0, 0, -1), (0, 1, -9), (0, 0, 0)], [[1, -1, 1]], [4], [None] * 3, [2]), (0, 0, -4))

    def test_of_all_kinds(self):
        words = {"best": 0, "endless": 0}
        for problem in some_problems():
            words[self.hold(problem)[0]] += 1
        self.assertGreater(min(words.values()), 30)

    def test_never_endless_where_every_choice_has_a_top(self):
        source = random.Random(25)
        for number in NUMBERS:
            for choices, rows in [(3, 1), (6, 3), (10, 5)]:
                for rights in (0, 0.5, 1):
                    told = self.hold(some_problem(source, choices, rows, number, 1, rights))
                    self.assertEqual(told[0], "best")

    def test_turned_round_and_round(self):
        signal.signal(signal.SIGALRM, too_long)
        self.addCleanup(signal.alarm, 0)
        signal.alarm(120)
        words = {"best": 0, "endless": 0}
        for problem in round_problems():
            words[self.hold(problem)[0]] += 1
        for costs, rows, first in TIES:
            for part in range(3):
                parts = [(0,) * part + (one,) + (0,) * (2 - part) for one in costs]
                self.hold(problem_of(parts, rows, [0, 0], [None] * len(costs), first))
                self.hold(problem_of(parts, rows, [0, 0], [3] * len(costs), first))
        source = random.Random(26)
        for _ in range(60):
            self.hold(some_problem(source, 14, 6, small_number, 0.3, 0))
        self.assertGreater(min(words.values()), 10)

    def test_costs_of_very_unlike_sizes(self):
        little, great = Fraction(1, 10 ** 60), 10 ** 60
        costs = [(little, 0, -great), (0, little, -great), (0, 0, great)]
        self.best(problem_of(costs, [[1, 1, 1]], [4], [None, 1, None], [0]), (0, 0, 4 * great))
        costs = [(-little, 0, great), (0, -great, -great), (0, 0, -great)]
        self.best(problem_of(costs, [[1, 1, 1]], [4], [None, None, None], [2]), (-4 * little, 0, 4 * great))
        self.best(problem_of([(little, 0, 0), (little + little ** 6, 0, -great)], [[1, 1]], [1], [None, None], [1]),
                  (little, 0, 0))
        source = random.Random(27)
        for _ in range(20):
            costs, rows, rights, tops, first = some_problem(source, 9, 4, broken_number, 0.8, 0.7)
            unlike = [(pair(Fraction(*one) * little), two, pair(Fraction(*three) * great)) for one, two, three in costs]
            self.hold((unlike, rows, rights, tops, first))

    def test_many_choices_and_rows(self):
        source = random.Random(28)

        def mostly_nought(drawn):
            return drawn.choice([0] * 19 + [1, -1, 2, 3, -2])

        costs, rows, rights, tops, first = some_problem(source, 400, 60, mostly_nought, 1, 0.8)
        rights = [(5, 1)] * 60
        tops = [(9, 1)] * 400
        costs = [triple(source.randint(0, 3), source.randint(-9, 9), source.randint(-9, 9)) for _ in costs]
        self.assertEqual(self.hold((costs, rows, rights, tops, first))[0], "best")

    def test_the_program_s_own_floor_says_the_same(self):
        for costs, rows, rights, tops, first in some_problems()[::3]:
            word, mix, prices = solved(costs, rows, rights, tops, first)
            self.assertIs(is_mix(rows, rights, tops, mix), True)
            if word == "best":
                self.assertEqual(floor(costs, rows, rights, tops, prices), sum_of(costs, mix))
                self.assertEqual(sum_of(costs, mix), paired(sum_by_rules(costs, mix)))


class Own(unittest.TestCase):
    def test_the_same_problem_again_behind_another_one(self):
        problems = some_problems()[::5]
        told = [solved(*problem) for problem in problems]
        kept = copy.deepcopy(told)
        for problem, answer in list(zip(problems, told))[::-1]:
            again = solved(*problem)
            self.assertEqual(again[0], answer[0])
            self.assertEqual(told, kept)
            if again[0] == "best":
                self.assertEqual(sum_of(problem[0], again[1]), sum_of(problem[0], answer[1]))

    def test_what_is_done_to_lists_afterwards(self):
        for problem in some_problems()[::5]:
            handed = copy.deepcopy(problem)
            told = solved(*handed)
            kept = copy.deepcopy(told)
            for part in handed:
                part.append("more")
                part[0] = "changed"
            self.assertEqual(told, kept)
            for part in told[1:]:
                part.append("more")
                part[0] = "changed"
            again = solved(*problem)
            self.assertEqual(again[0], kept[0])
            self.assertTrue(is_mix_by_rules(problem[1], problem[2], problem[3], again[1]))


if __name__ == "__main__":
    unittest.main()
