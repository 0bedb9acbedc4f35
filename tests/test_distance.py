import itertools
import unittest

from helper import BRACKETS, LEAST, REPAIR, ask, costs, distance_row, distance_to, load, text, text_row
from leastrepairs.mending import answers

HUGE = 10 ** 18
PRICES = ((1, 1, 1), (1, 1, 2), (1, 1, 3), (2, 3, 4), (2, 3, 5), (2, 3, 6), (9, 1, 1), (1, 9, 9), (9, 9, 1))


def far(signs, other, prices=(1, 1, 1)):
    return ask(costs(*prices), text(signs), distance_to(other))[2]


def least_of_all_changes(first, second, prices):
    """Tries out which bytes of the first are kept or replaced, and which of the second they become."""
    put, leave, swap = prices
    tried = []
    for stay in range(min(len(first), len(second)) + 1):
        for these in itertools.combinations(first, stay):
            for those in itertools.combinations(second, stay):
                swaps = sum(a != b for a, b in zip(these, those))
                tried.append(swap * swaps + leave * (len(first) - stay) + put * (len(second) - stay))
    return min(tried)


class Told(unittest.TestCase):
    def test_the_documents_example(self):
        self.assertEqual(ask(load(*BRACKETS), costs(1, 2, 2), text("(a"), distance_to("a"))[3], [0, 2])

    def test_how_many_numbers_are_told_ahead(self):
        self.assertEqual(answers([2, 2, 40, 97, 8, 1, 97, 8, 0, 8, 1, 256]), [1, 0, 2, 0, 1, 2, 0, 2, 1, -1])

    def test_the_new_object(self):
        self.assertEqual(ask(distance_row([]), distance_row([1, 2, 3])), [[0, 0], [0, 3]])

    def test_texts_that_are_equal(self):
        for signs in ("", "a", "abc", "abcabcabcabc", "aaaaaaaaaaaa"):
            self.assertEqual(far(signs, signs, (9, 9, 9)), [0, 0])

    def test_the_list_without_bytes(self):
        self.assertEqual(far("", "", (7, 8, 9)), [0, 0])
        self.assertEqual(far("abc", "", (7, 8, 9)), [0, 24])
        self.assertEqual(far("", "abc", (7, 8, 9)), [0, 21])

    def test_each_kind_of_change_alone(self):
        self.assertEqual(far("ac", "abc", (4, 5, 6)), [0, 4])
        self.assertEqual(far("abc", "ac", (4, 5, 6)), [0, 5])
        self.assertEqual(far("axc", "abc", (4, 5, 6)), [0, 6])

    def test_it_is_not_the_same_there_and_back(self):
        self.assertEqual(far("aab", "b", (1, 7, 9)), [0, 14])
        self.assertEqual(far("b", "aab", (1, 7, 9)), [0, 2])

    def test_replacing_dearer_or_cheaper_than_putting_in_and_leaving_out(self):
        self.assertEqual(far("x", "a", (2, 3, 4)), [0, 4])
        self.assertEqual(far("x", "a", (2, 3, 5)), [0, 5])
        self.assertEqual(far("x", "a", (2, 3, 6)), [0, 5])
        self.assertEqual(far("abcd", "bcda", (1, 1, 9)), [0, 2])
        self.assertEqual(far("abcd", "bcda", (9, 9, 1)), [0, 4])
        self.assertEqual(far("abcdef", "uvwxyz", (2, 2, 9)), [0, 24])
        self.assertEqual(far("abcdef", "uvwxyz", (9, 9, 1)), [0, 6])

    def test_ordinary_texts(self):
        self.assertEqual(far("kitten", "sitting"), [0, 3])
        self.assertEqual(far("saturday", "sunday"), [0, 3])
        self.assertEqual(far("abcdefghijkl", "lkjihgfedcba"), [0, 12])
        self.assertEqual(far("ab", "xaxbx", (3, 1, 1)), [0, 9])

    def test_all_small_texts_against_all_changes(self):
        small = ["".join(signs) for length in range(4) for signs in itertools.product("abc", repeat=length)]
        for first, second in itertools.product(small[::2], small[::3] + ["abcab", "ccbbaa"]):
            for prices in PRICES:
                with self.subTest(first=first, second=second, prices=prices):
                    self.assertEqual(far(first, second, prices), [0, least_of_all_changes(first, second, prices)])

    def test_the_lowest_and_the_highest_byte(self):
        got = ask(text_row([0, 255]), distance_row([0, 255]), distance_row([255, 0]), distance_row([0]))
        self.assertEqual(got[1:], [[0, 0], [0, 2], [0, 1]])

    def test_64_bytes(self):
        self.assertEqual(far("", "a" * 64, (9, 1, 1)), [0, 576])
        self.assertEqual(far("a" * 12, "a" * 64, (9, 1, 1)), [0, 468])
        self.assertEqual(far("b" * 12, "a" * 63 + "b", (9, 8, 7)), [0, 9 * 52 + 7 * 11])

    def test_the_grammar_is_of_no_account(self):
        got = ask(text("ab"), distance_to("b"), load(*BRACKETS), distance_to("b"), load(1, []), distance_to("b"))
        self.assertEqual(got[1::2], [[0, 1]] * 3)

    def test_the_costs_and_the_text_are_those_that_are_held(self):
        got = ask(text("ab"), distance_to("b"), costs(3, 4, 5), distance_to("b"), text("b"), distance_to("b"),
                  text(""), distance_to("b"))
        self.assertEqual(got[1::2], [[0, 1], [0, 4], [0, 0], [0, 3]])

    def test_asking_changes_nothing(self):
        got = ask(load(*BRACKETS), text("(a"), LEAST, distance_to("xyz"), REPAIR, distance_to("(a"), LEAST)
        self.assertEqual(got[2:], [[0, 1], [0, 3], [0, 1, 97], [0, 0], [0, 1]])


class Refused(unittest.TestCase):
    def test_numbers_that_are_no_bytes(self):
        for number in (-1, 256, -255, 257, HUGE, -HUGE):
            for row in ([number], [number, 1, 2], [1, number, 2], [1] * 63 + [number]):
                with self.subTest(row=row):
                    self.assertEqual(ask(distance_row(row)), [[-1]])

    def test_too_many_bytes(self):
        for length in (65, 66, 100, 2000):
            with self.subTest(length=length):
                self.assertEqual(ask(distance_row([255] * length)), [[-3]])

    def test_no_byte_is_told_ahead_of_too_many(self):
        for row in ([256] * 65, [7] * 64 + [-1], [-1] + [7] * 64, [7] * 1999 + [HUGE]):
            with self.subTest(length=len(row)):
                self.assertEqual(ask(distance_row(row)), [[-1]])

    def test_a_refusal_leaves_the_object_as_it_was(self):
        got = ask(load(*BRACKETS), costs(2, 3, 4), text("(a"), distance_row([300]), distance_row([1] * 65),
                  distance_to("a"), LEAST)
        self.assertEqual(got[3:], [[-1], [-3], [0, 3], [0, 2]])


if __name__ == "__main__":
    unittest.main()
