import unittest

from helper import LEAST, ask, costs, load, text

HUGE = 10 ** 18
ONE_A = load(1, [(0, ["a"])])


def leasts(*three):
    """What putting in, leaving out and replacing a byte cost after a call of costs."""
    got = ask(ONE_A, costs(*three), text(""), LEAST, text("aa"), LEAST, text("b"), LEAST)
    return got[1], got[3][1], got[5][1], got[7][1]


class Taken(unittest.TestCase):
    def test_each_number_is_the_cost_of_its_own_change(self):
        self.assertEqual(leasts(4, 5, 6), ([0], 4, 5, 6))
        self.assertEqual(leasts(5, 6, 4), ([0], 5, 6, 4))
        self.assertEqual(leasts(6, 4, 5), ([0], 6, 4, 5))

    def test_the_edges(self):
        self.assertEqual(leasts(1, 1, 1), ([0], 1, 1, 1))
        self.assertEqual(leasts(9, 9, 9), ([0], 9, 9, 9))
        self.assertEqual(leasts(1, 9, 9), ([0], 1, 9, 9))
        self.assertEqual(leasts(9, 1, 9), ([0], 9, 1, 9))
        self.assertEqual(leasts(9, 9, 1), ([0], 9, 9, 1))

    def test_all_are_one_at_first(self):
        got = ask(ONE_A, LEAST, text("aa"), LEAST, text("b"), LEAST)
        self.assertEqual([got[1], got[3], got[5]], [[0, 1]] * 3)

    def test_they_hold_from_now_on(self):
        got = ask(ONE_A, LEAST, costs(7, 1, 1), LEAST, text("b"), text(""), LEAST, ONE_A, LEAST, costs(2, 1, 1), LEAST)
        self.assertEqual([got[k] for k in (1, 3, 6, 8, 10)], [[0, 1], [0, 7], [0, 7], [0, 7], [0, 2]])


class Refused(unittest.TestCase):
    def test_each_place_alone(self):
        for place in range(3):
            for number in (0, 10, -1, -9, 11, HUGE, -HUGE):
                three = [1, 5, 9]
                three[place] = number
                with self.subTest(three=three):
                    self.assertEqual(ask(costs(*three)), [[-5]])

    def test_several_places(self):
        for three in ((0, 0, 0), (10, 10, 10), (0, 10, 5), (5, -1, 10), (-1, 5, 0)):
            with self.subTest(three=three):
                self.assertEqual(ask(costs(*three)), [[-5]])

    def test_a_refusal_leaves_the_costs_as_they_were(self):
        for bad in ((0, 8, 8), (8, 10, 8), (8, 8, -3)):
            with self.subTest(bad=bad):
                got = ask(ONE_A, costs(2, 3, 4), costs(*bad), LEAST, text("aa"), LEAST, costs(*bad), text("b"), LEAST)
                self.assertEqual([got[k] for k in (2, 3, 5, 6, 8)], [[-5], [0, 2], [0, 3], [-5], [0, 4]])


if __name__ == "__main__":
    unittest.main()
