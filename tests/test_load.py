import unittest

from helper import BRACKETS, LEAST, REPAIR, ask, grammar_row, load, load_row, repair_answer, text

HUGE = 10 ** 18
GOOD = grammar_row(*BRACKETS)


def answer_of(row):
    return ask(load_row(row))[0]


class Taken(unittest.TestCase):
    def test_the_documents_row(self):
        self.assertEqual(GOOD, [1, 2, 0, 3, 1, 40, 40, 0, 0, 1, 41, 41, 0, 1, 1, 97, 97])
        self.assertEqual(answer_of(GOOD), [0])

    def test_edges_that_are_still_taken(self):
        rows = {
            "one nonterminal and no rules": [1, 0],
            "20 nonterminals": [20, 1, 19, 1, 0, 19],
            "60 rules": [1, 60] + [0, 0] * 60,
            "8 symbols": [1, 1, 0, 8] + [0, 0] * 8,
            "the lowest byte": [1, 1, 0, 1, 1, 0, 0],
            "the highest byte": [1, 1, 0, 1, 1, 255, 255],
            "all bytes": [1, 1, 0, 1, 1, 0, 255],
            "the longest row": [20, 60] + ([19, 8] + [1, 0, 255] * 8) * 60,
            "two rules that are the same": [1, 2, 0, 1, 1, 97, 97, 0, 1, 1, 97, 97],
        }
        for name, row in rows.items():
            with self.subTest(name):
                self.assertEqual(answer_of(row), [0])

    def test_the_last_taken_grammar_is_held(self):
        got = ask(load(1, [(0, ["a"])]), REPAIR, load(1, [(0, ["b", "b"])]), REPAIR, load(1, []), REPAIR)
        self.assertEqual(got, [[0], repair_answer("a"), [0], repair_answer("bb"), [0], [1]])

    def test_the_highest_nonterminal_and_rule_are_read(self):
        chain = [(a, [a + 1]) for a in range(19)]
        dearer = [(18, ["x", "x"])] * 39
        rules = chain + dearer + [(19, ["b"]), (19, [])]
        self.assertEqual(len(rules), 60)
        self.assertEqual(ask(load(20, rules), REPAIR)[1], repair_answer(""))

    def test_all_eight_symbols_are_read(self):
        self.assertEqual(ask(load(1, [(0, list("abcdefgh"))]), REPAIR)[1], repair_answer("abcdefgh"))

    def test_text_and_costs_stay(self):
        got = ask([1, 3, 4, 5], text("bb"), load(1, [(0, ["a"])]), LEAST, load(1, [(0, ["b"] * 3)]), LEAST)
        self.assertEqual([got[3], got[5]], [[0, 9], [0, 3]])


class Refused(unittest.TestCase):
    def test_a_number_below_zero_anywhere(self):
        for place in range(len(GOOD)):
            for number in (-1, -HUGE):
                with self.subTest(place=place, number=number):
                    self.assertEqual(answer_of(GOOD[:place] + [number] + GOOD[place + 1:]), [-1])

    def test_below_zero_is_told_ahead_of_no_grammar_row(self):
        for row in ([-1], [0, -1], [21, 0, -1], [1, 61, -5], [HUGE, -HUGE], GOOD + [-1], [0] * 1999 + [-1]):
            with self.subTest(row=row[:5]):
                self.assertEqual(answer_of(row), [-1])

    def test_the_empty_row(self):
        self.assertEqual(answer_of([]), [-2])

    def test_too_few_numbers(self):
        for length in range(len(GOOD)):
            with self.subTest(length=length):
                self.assertEqual(answer_of(GOOD[:length]), [-2])

    def test_too_many_numbers(self):
        for more in ([0], [1], [0, 0], [HUGE], [0] * 1900):
            with self.subTest(more=more[:3]):
                self.assertEqual(answer_of(GOOD + more), [-2])
        self.assertEqual(answer_of([1, 0, 0]), [-2])

    def test_numbers_out_of_their_bounds(self):
        rows = {
            "0 nonterminals": [0, 0],
            "0 nonterminals and a rule": [0, 1, 0, 0],
            "21 nonterminals": [21, 0],
            "very many nonterminals": [HUGE, 0],
            "61 rules": [1, 61] + [0, 0] * 61,
            "very many rules": [1, HUGE],
            "9 symbols": [1, 1, 0, 9] + [0, 0] * 9,
            "very many symbols": [1, 1, 0, HUGE],
            "a rule of a nonterminal that is not there": [1, 1, 1, 0],
            "a rule of the nonterminal 20": [20, 1, 20, 0],
            "a symbol that is not there": [1, 1, 0, 1, 0, 1],
            "the symbol 20": [20, 1, 0, 1, 0, 20],
            "lo above hi": [1, 1, 0, 1, 1, 98, 97],
            "hi above 255": [1, 1, 0, 1, 1, 0, 256],
            "both above 255": [1, 1, 0, 1, 1, 256, 256],
            "lo far above 255": [1, 1, 0, 1, 1, HUGE, HUGE],
            "a symbol that is neither 0 nor 1": [1, 1, 0, 1, 2, 0],
            "one with two numbers behind it": [1, 1, 0, 1, 2, 0, 0],
            "a symbol of a huge kind": [1, 1, 0, 1, HUGE, 0],
            "2000 numbers": [1] * 2000,
        }
        for name, row in rows.items():
            with self.subTest(name):
                self.assertEqual(answer_of(row), [-2])

    def test_a_refusal_leaves_the_grammar_as_it_was(self):
        before = load(2, [(0, [1, "b"]), (1, ["a"])])
        for bad in ([], [-1], [1, 1, 0, 1, 1, 98], [21, 0], [2, 2, 0, 1, 1, 99, 99, 0, 1, 2]):
            with self.subTest(bad=bad):
                got = ask(before, load_row(bad), REPAIR, LEAST, load_row(bad), REPAIR)
                self.assertEqual([got[2], got[3], got[5]], [repair_answer("ab"), [0, 2], repair_answer("ab")])

    def test_a_refusal_leaves_the_new_object_as_it_was(self):
        self.assertEqual(ask(load_row(GOOD[:-1]), LEAST, REPAIR), [[-2], [1], [1]])


if __name__ == "__main__":
    unittest.main()
