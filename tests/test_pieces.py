import itertools
import unittest

from helper import distance, price
from leastrepairs.pieces import KEPT, LEFT_OUT, PUT_IN, REPLACED, Costs, range_changes, range_table

PRICES = ((1, 1, 1), (1, 1, 2), (1, 1, 3), (2, 3, 5), (2, 3, 6), (9, 1, 1), (1, 9, 9), (9, 9, 1))


def told(letters, i, j, prices=(1, 1, 1)):
    return range_changes(5, 7, letters, i, j, Costs(*prices))


class ToldChangesOfARange(unittest.TestCase):
    def test_the_first_byte_within_is_kept(self):
        self.assertEqual(told([1, 6, 5, 9], 0, 4),
                         [(LEFT_OUT, 0, 0), (KEPT, 1, 6), (LEFT_OUT, 2, 0), (LEFT_OUT, 3, 0)])
        self.assertEqual(told([5, 7, 9], 1, 2), [(KEPT, 1, 7)])
        self.assertEqual(told([5], 0, 1), [(KEPT, 0, 5)])

    def test_otherwise_the_first_byte_is_replaced_by_the_lowest(self):
        self.assertEqual(told([4, 8, 9], 0, 3), [(REPLACED, 0, 5), (LEFT_OUT, 1, 0), (LEFT_OUT, 2, 0)])

    def test_replacing_is_told_if_it_is_as_cheap(self):
        self.assertEqual(told([4], 0, 1, (2, 3, 5)), [(REPLACED, 0, 5)])

    def test_putting_in_ahead_is_told_only_if_it_is_cheaper(self):
        self.assertEqual(told([5, 8, 9], 1, 3, (2, 3, 6)), [(PUT_IN, 1, 5), (LEFT_OUT, 1, 0), (LEFT_OUT, 2, 0)])

    def test_of_the_empty_piece_the_lowest_is_put_in(self):
        self.assertEqual(told([6, 6], 1, 1), [(PUT_IN, 1, 5)])
        self.assertEqual(told([], 0, 0, (9, 9, 1)), [(PUT_IN, 0, 5)])


class CostOfARange(unittest.TestCase):
    def test_it_is_the_least_cost_and_that_of_the_told_changes(self):
        for letters in itertools.product((4, 6, 7), repeat=4):
            for prices in PRICES:
                table = range_table(5, 7, letters, Costs(*prices))
                for i in range(5):
                    for j in range(i, 5):
                        least = min(distance(letters[i:j], [byte], prices) for byte in (5, 6, 7))
                        self.assertEqual(table[i][j - i], least)
                        self.assertEqual(price(told(letters, i, j, prices), prices), least)


if __name__ == "__main__":
    unittest.main()
