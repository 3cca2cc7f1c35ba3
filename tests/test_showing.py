"""Points 8 and 9: a house shown as the lines of its text."""

import copy
import unittest

from samples import BOUNDS, DAY, LEAST, kinds, some_houses, text_of
from sunstore.showing import shown


class Shown(unittest.TestCase):
    def test_by_hand(self):
        for house, lines in (LEAST, DAY, BOUNDS):
            self.assertEqual(shown(house), lines)

    def test_houses_of_all_kinds(self):
        for house in some_houses():
            told = shown(house)
            self.assertEqual(told, text_of(house))
            self.assertEqual(kinds(told), (list, [str] * len(told)))

    def test_the_samples_reach_the_edges(self):
        houses = some_houses()
        self.assertEqual({len(house[0]) for house in houses}, set(range(1, 25)))
        self.assertEqual({len(house[2]) for house in houses}, set(range(7)))
        lines = [line for hours, _, _ in houses for _, _, line in hours]
        self.assertIn(None, lines)
        for place in (0, 2):
            prices = [line[place] for line in lines if line]
            self.assertEqual((min(prices), max(prices)), (-1000000, 1000000))
        stores = [store for _, store, _ in houses]
        self.assertTrue([store for store in stores if store[0] == store[1] > 0])
        self.assertTrue([store for store in stores if store[0] > store[1] == 0])
        self.assertTrue([store for store in stores if store[0] > store[1] > 0])
        for place in (4, 5):
            bottoms = [store[place][1] for store in stores]
            self.assertEqual((min(bottoms), max(bottoms)), (1, 1000))

    def test_each_house_has_a_text_of_its_own(self):
        houses = set(some_houses())
        self.assertEqual(len({tuple(shown(house)) for house in houses}), len(houses))

    def test_what_is_told_is_the_asker_s_own(self):
        house, lines = DAY
        told = shown(house)
        again = shown(house)
        told[0] = "changed"
        told.append("more")
        self.assertEqual(again, lines)
        self.assertEqual(shown(house), lines)

    def test_the_house_stays(self):
        for house in some_houses()[:40]:
            ahead = copy.deepcopy(house)
            shown(house)
            self.assertEqual(house, ahead)

    def test_a_house_somewhat_beyond_its_bounds_is_not_refused(self):
        house = (DAY[0][0] * 7, (20, 25, 6, 7, (3, 2), (1, 1001), 4000000), DAY[0][2] * 4)
        self.assertEqual(shown(house), text_of(house))


if __name__ == "__main__":
    unittest.main()
