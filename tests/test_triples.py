"""Point 7: triples added, multiplied, and which one is ahead."""

import unittest

from sunstore.triples import added, ahead, multiplied

GREAT = 10 ** 359
NOUGHT = ((0, 1), (0, 1), (0, 1))
ONE = ((1, 2), (-3, 4), (5, 1))


class Kinds(unittest.TestCase):
    def of_a_triple(self, told):
        self.assertIs(type(told), tuple)
        self.assertEqual([type(part) for part in told], [tuple, tuple, tuple])
        self.assertEqual([type(number) for part in told for number in part], [int] * 6)

    def test_what_is_told(self):
        self.of_a_triple(added(ONE, NOUGHT))
        self.of_a_triple(multiplied(ONE, (0, 1)))
        self.of_a_triple(multiplied(ONE, (1, 1)))
        self.assertIs(ahead(ONE, NOUGHT), False)
        self.assertIs(ahead(NOUGHT, ONE), True)


class Added(unittest.TestCase):
    def test_part_by_part(self):
        other = ((1, 3), (3, 4), (-1, 7))
        self.assertEqual(added(ONE, other), ((5, 6), (0, 1), (34, 7)))
        self.assertEqual(added(other, ONE), ((5, 6), (0, 1), (34, 7)))

    def test_nought_changes_nothing(self):
        self.assertEqual(added(ONE, NOUGHT), ONE)
        self.assertEqual(added(NOUGHT, ONE), ONE)
        self.assertEqual(added(NOUGHT, NOUGHT), NOUGHT)

    def test_each_part_by_itself(self):
        for place in range(3):
            other = [(0, 1), (0, 1), (0, 1)]
            other[place] = (1, 4)
            asked = list(ONE)
            asked[place] = [(3, 4), (-1, 2), (21, 4)][place]
            with self.subTest(place=place):
                self.assertEqual(added(ONE, tuple(other)), tuple(asked))

    def test_great_parts(self):
        one = ((GREAT, 1), (1, GREAT), (-GREAT, GREAT + 1))
        self.assertEqual(added(one, one), ((2 * GREAT, 1), (1, GREAT // 2), (-2 * GREAT, GREAT + 1)))


class Multiplied(unittest.TestCase):
    def test_part_by_part(self):
        self.assertEqual(multiplied(ONE, (2, 3)), ((1, 3), (-1, 2), (10, 3)))
        self.assertEqual(multiplied(ONE, (-2, 1)), ((-1, 1), (3, 2), (-10, 1)))
        self.assertEqual(multiplied(((1, 2), (3, 5), (7, 11)), (13, 17)), ((13, 34), (39, 85), (91, 187)))

    def test_by_one_and_by_nought(self):
        self.assertEqual(multiplied(ONE, (1, 1)), ONE)
        self.assertEqual(multiplied(ONE, (0, 1)), NOUGHT)
        self.assertEqual(multiplied(NOUGHT, (5, 3)), NOUGHT)

    def test_great_parts(self):
        one = ((GREAT, 1), (1, GREAT), (-GREAT, GREAT + 1))
        self.assertEqual(multiplied(one, (GREAT + 1, GREAT)),
                         ((GREAT + 1, 1), (GREAT + 1, GREAT ** 2), (-1, 1)))


class Ahead(unittest.TestCase):
    def test_unlike_in_one_part_only(self):
        for place in range(3):
            more = list(ONE)
            more[place] = [(51, 100), (-74, 101), (6, 1)][place]
            with self.subTest(place=place):
                self.assertIs(ahead(ONE, tuple(more)), True)
                self.assertIs(ahead(tuple(more), ONE), False)

    def test_the_first_unlike_part_decides(self):
        for less, more in [
            (((0, 1), (9, 1), (9, 1)), ((1, 9), (0, 1), (0, 1))),
            (((0, 1), (0, 1), (9, 1)), ((1, 9), (9, 1), (0, 1))),
            (((0, 1), (9, 1), (0, 1)), ((1, 9), (0, 1), (9, 1))),
            (((1, 1), (1, 3), (9, 1)), ((1, 1), (1, 2), (0, 1))),
            (((1, 1), (-1, 2), (9, 1)), ((1, 1), (-1, 3), (-9, 1))),
        ]:
            with self.subTest(less=less, more=more):
                self.assertIs(ahead(less, more), True)
                self.assertIs(ahead(more, less), False)

    def test_parts_are_compared_as_fractions_not_by_their_tops(self):
        for less, more in [((1, 2), (2, 3)), ((2, 5), (1, 2)), ((3, 7), (1, 2)), ((-1, 2), (-1, 3)), ((-5, 9), (-1, 2))]:
            for place in range(3):
                one = list(ONE)
                other = list(ONE)
                one[place] = less
                other[place] = more
                with self.subTest(less=less, more=more, place=place):
                    self.assertIs(ahead(tuple(one), tuple(other)), True)
                    self.assertIs(ahead(tuple(other), tuple(one)), False)

    def test_alike(self):
        for one in (NOUGHT, ONE, ((GREAT, 1), (1, GREAT), (-GREAT, GREAT + 1))):
            self.assertIs(ahead(one, one), False)
            self.assertIs(ahead(one, added(one, NOUGHT)), False)

    def test_nearly_alike(self):
        one = ((1, 2), (1, 3), (GREAT - 1, GREAT))
        other = ((1, 2), (1, 3), (GREAT, GREAT + 1))
        self.assertIs(ahead(one, other), True)
        self.assertIs(ahead(other, one), False)


if __name__ == "__main__":
    unittest.main()
