"""Point 32: ranks of keepers by what their days cost, and what each costs more than the best plan."""

import copy
import random
import unittest

from samples import PLAIN_KEEPERS, costs_of, kept_days, kinds, ranks_by_rules, some_day, some_keeper, some_keepers
from sunstore.best import best_plan
from sunstore.costs import costs
from sunstore.keepers import day_of
from sunstore.ranks import ranks
from sunstore.triples import added, ahead

ONE = (1, 1)
FREE = ((0, 1), (0, 1), (0, 1))
TRIPLE = (tuple, [(tuple, [int, int])] * 3)
# Coins for what is needed, or the store: to take is cheaper than to buy, to fill at the line is dear.
HOUSE = (((0, 4, (5, 90, 1, 2)), (0, 4, (5, 90, 1, 2))), (20, 5, 9, 9, ONE, ONE, 0), (("wash", 2, 0, 1, 2),))
SPARING = (((), "none", "need", "wait"),)
BUYING = (((), "none", "none", "wait"),)
FILLING = (((), "line", "none", "wait"),)


def coins(number):
    return ((0, 1), (0, 1), (number, 1))


class Ranks(unittest.TestCase):
    def hold(self, house, keepers):
        """Ranks are as the oracle's."""
        before = copy.deepcopy((house, keepers))
        told = ranks(house, keepers)
        self.assertEqual(told, ranks_by_rules(house, keepers, costs_of(house, best_plan(house)[0])))
        self.assertEqual(kinds(told), (list, [(tuple, [int, TRIPLE, TRIPLE])] * len(keepers)))
        self.assertEqual((house, keepers), before)
        self.assertEqual(sorted(entry[0] for entry in told), list(range(len(keepers))))
        for _, _, more in told:
            self.assertFalse(ahead(more, FREE))

    def test_by_hand(self):
        self.assertEqual(ranks(HOUSE, []), [])
        self.assertEqual(ranks(HOUSE, [SPARING]), [(0, coins(25), FREE)])
        self.assertEqual(ranks(HOUSE, [BUYING]), [(0, coins(50), coins(25))])
        self.assertEqual(ranks(HOUSE, [FILLING, BUYING, SPARING]), [
            (2, coins(25), FREE), (1, coins(50), coins(25)), (0, coins(125), coins(100))])

    def test_like_ones_rise_by_number(self):
        self.assertEqual([entry[0] for entry in ranks(HOUSE, [BUYING, BUYING, BUYING])], [0, 1, 2])
        self.assertEqual([entry[0] for entry in ranks(HOUSE, [BUYING, SPARING, BUYING, SPARING])], [1, 3, 0, 2])
        other = (((("from", 9),), "line", "give", "now"),) + SPARING
        self.assertEqual([entry[0] for entry in ranks(HOUSE, [other, BUYING, SPARING, other])], [0, 2, 3, 1])

    def test_every_order_of_a_few(self):
        keepers = [FILLING, BUYING, SPARING, BUYING]
        source = random.Random(38)
        for _ in range(20):
            self.hold(HOUSE, source.sample(keepers, source.randint(0, 4)))

    def test_what_lacks_and_what_is_undone_count_ahead_of_coins(self):
        store = (9, 6, 0, 9, ONE, ONE, 5)
        house = (((0, 4, None), (0, 2, (1, 1, 1, 9))), store, (("wash", 3, 1, 1, 3),))
        keepers = [(((), "none", take, "wait"),) for take in ("none", "need", "give")]
        keepers.append((((("dark",),), "none", "need", "wait"), ((), "none", "none", "now")))
        self.hold(house, keepers)
        self.assertEqual([entry[0] for entry in ranks(house, keepers)], [1, 2, 3, 0])
        # Nothing lacks, but 2 are left undone; number 3 keeps what is worth more coins in the store, and lacks.
        self.assertEqual(ranks(house, keepers)[0][1], ((0, 1), (2, 1), (1, 1)))

    def test_houses_and_keepers_of_all_kinds(self):
        for house, keepers in kept_days()[::4]:
            self.hold(house, keepers)

    def test_lists_of_all_lengths(self):
        source = random.Random(39)
        for count in range(21):
            house = some_day(source, 1 + count % 5, count % 3)
            keepers = [some_keeper(source, house, source.randint(0, 4), None) for _ in range(count)]
            self.hold(house, keepers)
            # The same ones twice stand beside one another's costs.
            self.hold(house, keepers[:10] + keepers[:10])

    def test_all_plain_keepers(self):
        source = random.Random(40)
        for _ in range(12):
            self.hold(some_day(source, 6, 2), source.sample(PLAIN_KEEPERS, 18))

    def test_somewhat_beyond_the_bound(self):
        self.hold(HOUSE, PLAIN_KEEPERS + PLAIN_KEEPERS)

    def test_the_program_says_the_same_of_its_costs(self):
        for house, keepers in kept_days()[1::31]:
            least = costs(house, best_plan(house)[0])
            for number, told, more in ranks(house, keepers):
                self.assertEqual(told, costs(house, day_of(house, keepers[number])))
                self.assertEqual(told, added(least, more))

    def test_lists_are_the_asker_s_own(self):
        source = random.Random(41)
        house = some_day(source, 4, 2)
        keepers = some_keepers(source, house)
        told = ranks(house, keepers)
        kept = copy.deepcopy(told)
        self.assertEqual(ranks(house, keepers[:2] + keepers[:1]), ranks(house, keepers[:2] + keepers[:1]))
        self.assertEqual(told, kept)
        again = ranks(house, keepers)
        again.clear()
        self.assertEqual(ranks(house, keepers), kept)
        keepers.pop()
        self.assertEqual(told, kept)


if __name__ == "__main__":
    unittest.main()
