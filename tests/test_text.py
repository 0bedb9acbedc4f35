import unittest

from helper import LEAST, REPAIR, ask, load, load_row, text, text_row

HUGE = 10 ** 18
# Reads every text, so that repair tells the text that is held.
EVERY_TEXT = load_row([1, 2, 0, 2, 1, 0, 255, 0, 0, 0, 0])


def held_after(*calls):
    got = ask(EVERY_TEXT, *calls, REPAIR)
    return got[1:-1], got[-1][2:]


class Taken(unittest.TestCase):
    def test_an_ordinary_text(self):
        self.assertEqual(held_after(text_row([104, 105])), ([[0]], [104, 105]))

    def test_the_edges(self):
        for row in ([], [0], [255], [0, 255] * 6, list(range(12)), list(range(244, 256))):
            with self.subTest(row=row):
                self.assertEqual(held_after(text_row(row)), ([[0]], row))

    def test_no_bytes_are_held_at_first(self):
        self.assertEqual(held_after(), ([], []))

    def test_the_last_taken_text_is_held(self):
        self.assertEqual(held_after(text_row([1, 2, 3]), text_row([4])), ([[0], [0]], [4]))
        self.assertEqual(held_after(text_row([1, 2, 3]), text_row([])), ([[0], [0]], []))

    def test_it_holds_from_now_on(self):
        got = ask(load(1, [(0, [])]), text("abc"), LEAST, text("ab"), LEAST, text(""), LEAST)
        self.assertEqual([got[2], got[4], got[6]], [[0, 3], [0, 2], [0, 0]])


class Refused(unittest.TestCase):
    def test_numbers_that_are_no_bytes(self):
        for number in (-1, 256, -255, 257, HUGE, -HUGE):
            for row in ([number], [number, 1, 2], [1, number, 2], [1] * 11 + [number]):
                with self.subTest(row=row):
                    self.assertEqual(ask(text_row(row)), [[-1]])

    def test_too_many_bytes(self):
        for length in (13, 14, 64, 2000):
            with self.subTest(length=length):
                self.assertEqual(ask(text_row([255] * length)), [[-3]])

    def test_no_byte_is_told_ahead_of_too_many(self):
        for row in ([256] * 13, [7] * 12 + [-1], [-1] + [7] * 12, [7] * 1999 + [HUGE]):
            with self.subTest(length=len(row)):
                self.assertEqual(ask(text_row(row)), [[-1]])

    def test_a_refusal_leaves_the_text_as_it_was(self):
        for bad, told in (([1, 256], -1), ([-1], -1), ([9] * 13, -3), ([300] * 13, -1)):
            with self.subTest(bad=bad):
                self.assertEqual(held_after(text_row([5, 6]), text_row(bad)), ([[0], [told]], [5, 6]))
                self.assertEqual(held_after(text_row(bad)), ([[told]], []))


if __name__ == "__main__":
    unittest.main()
