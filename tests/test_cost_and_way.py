import unittest

from helper import APPLY, BRACKETS, LEAST, ask, cost, costs, load, text, way
from leastrepairs.mending import answers

HUGE = 10 ** 18
# Nonterminal 1 has no symbols to cover, 2 covers nothing at all, 3 covers b or c.
FOUR = (4, [(0, ["a", 1]), (1, []), (2, ["a", 2]), (3, ["bc"])])


def pieces(length):
    return [(i, j) for i in range(length + 1) for j in range(i, length + 1)]


def ways(grammar, signs, *asked, prices=(1, 1, 1)):
    return ask(load(*grammar), costs(*prices), text(signs), *[way(*three) for three in asked])[3:]


class Told(unittest.TestCase):
    def test_the_documents_examples(self):
        self.assertEqual(ways(BRACKETS, "(a", (0, 0, 2)), [[0, 1, 1, 1, 2]])
        self.assertEqual(ways(BRACKETS, "(a", (0, 0, 2), prices=(1, 2, 2)), [[0, 1, 0, 3, 1, 2, 2]])
        self.assertEqual(ask(load(*BRACKETS), text("(a"), cost(0, 0, 2))[2], [0, 1])

    def test_how_many_numbers_are_told_ahead(self):
        line = load(*BRACKETS) + text("(a)") + way(0, 0, 3) + cost(0, 0, 3) + way(0, 4, 4)
        self.assertEqual(answers(line), [1, 0, 1, 0, 7, 0, 0, 0, 3, 1, 2, 3, 2, 0, 0, 1, -5])

    def test_every_piece_of_a_text(self):
        told = {(0, 0): [0, 2, 1, 1, 0], (0, 1): [0, 2, 1, 1, 1], (0, 2): [0, 2, 0, 3, 1, 2, 2],
                (1, 1): [0, 2, 1, 1, 1], (1, 2): [0, 0, 1, 1, 2], (2, 2): [0, 2, 1, 1, 2]}
        for (i, j), answer in told.items():
            with self.subTest(i=i, j=j):
                got = ask(load(*BRACKETS), costs(2, 3, 2), text("(a"), way(0, i, j), cost(0, i, j))
                self.assertEqual(got[3:], [answer, answer[:2]])

    def test_the_whole_text_costs_what_least_tells(self):
        for signs in ("", "a", "((a)", "aaa", "((((((a)))))"):
            got = ask(load(*BRACKETS), text(signs), LEAST, cost(0, 0, len(signs)))
            self.assertEqual(got[2], got[3])

    def test_the_empty_piece_at_every_place(self):
        for place in range(4):
            with self.subTest(place=place):
                got = ask(load(*FOUR), costs(7, 8, 9), text("abc"), cost(0, place, place), way(0, place, place),
                          cost(1, place, place), way(1, place, place), way(2, place, place), way(3, place, place))
                self.assertEqual(got[3:], [[0, 7], [0, 7, 0, 2, place, place], [0, 0], [0, 0, 1, 0], [1],
                                           [0, 7, 3, 1, place]])

    def test_the_ends_of_a_text_of_12_bytes(self):
        got = ask(load(*BRACKETS), text("((((((a)))))"), way(0, 0, 12), way(0, 12, 12), way(0, 1, 12), cost(0, 0, 13))
        self.assertEqual(got[2:], [[0, 1, 0, 3, 1, 11, 12], [0, 1, 1, 1, 12], [0, 0, 0, 3, 2, 11, 12], [-5]])

    def test_a_rule_without_symbols(self):
        got = ask(load(*FOUR), costs(7, 8, 9), text("abc"), cost(1, 0, 3), way(1, 0, 3), way(1, 1, 2), way(1, 3, 3))
        self.assertEqual(got[3:], [[0, 24], [0, 24, 1, 0], [0, 8, 1, 0], [0, 0, 1, 0]])

    def test_a_rule_with_8_symbols(self):
        got = ways((1, [(0, ["a", "b"] * 4)]), "abab", (0, 0, 4), (0, 1, 3))
        self.assertEqual(got, [[0, 4, 0, 8, 0, 0, 0, 0, 1, 2, 3, 4], [0, 6, 0, 8, 1, 1, 1, 1, 1, 2, 3, 3]])

    def test_the_last_of_60_rules_and_of_20_nonterminals(self):
        rules = [(0, ["a", "a"])] * 59 + [(19, ["z"])]
        got = ask(load(20, rules), text("z"), way(19, 0, 1), cost(19, 0, 0), way(18, 0, 1), way(20, 0, 1))
        self.assertEqual(got[2:], [[0, 0, 59, 1, 1], [0, 1], [1], [-4]])

    def test_a_very_dear_cell(self):
        rules = [(a, [a + 1] * 8) for a in range(19)] + [(19, ["a"] * 8)]
        got = ask(load(20, rules), costs(9, 1, 1), cost(0, 0, 0), way(0, 0, 0), cost(19, 0, 0))
        self.assertEqual(got[2:], [[0, 9 * 8 ** 20], [0, 9 * 8 ** 20, 0, 8] + [0] * 8, [0, 72]])


class NoCell(unittest.TestCase):
    def test_the_new_object(self):
        self.assertEqual(ask(cost(0, 0, 0), way(0, 0, 0)), [[1], [1]])
        self.assertEqual(ask(text("ab"), cost(0, 0, 2), way(0, 1, 1), cost(1, 0, 0), way(0, 0, 3))[1:],
                         [[1], [1], [-4], [-5]])

    def test_a_nonterminal_that_covers_nothing(self):
        for i, j in pieces(3):
            got = ask(load(*FOUR), text("aab"), cost(2, i, j), way(2, i, j), cost(0, i, j))
            self.assertEqual(got[2:4], [[1], [1]])
            self.assertEqual(got[4][0], 0)

    def test_the_start_may_have_none_where_others_do(self):
        got = ask(load(3, [(0, [2]), (1, ["a"])]), text("a"), LEAST, cost(0, 0, 1), cost(1, 0, 1), way(1, 0, 0))
        self.assertEqual(got[2:], [[1], [1], [0, 0], [0, 1, 1, 1, 0]])


class EquallyCheap(unittest.TestCase):
    def test_the_first_symbols_piece_ends_as_early_as_it_may(self):
        self.assertEqual(ways((1, [(0, ["az", "az"])]), "abc", (0, 0, 3), (0, 0, 1)),
                         [[0, 1, 0, 2, 1, 2], [0, 1, 0, 2, 0, 1]])
        self.assertEqual(ways((1, [(0, ["az", "az", "az"])]), "abcde", (0, 1, 5)), [[0, 1, 0, 3, 2, 3, 4]])

    def test_then_the_second_symbols(self):
        self.assertEqual(ways((1, [(0, ["x", "ab", "ab"])]), "xb", (0, 0, 2)), [[0, 1, 0, 3, 1, 1, 2]])
        self.assertEqual(ways((2, [(0, ["x", 1, 1, 1]), (1, [])]), "xyz", (0, 0, 3)), [[0, 2, 0, 4, 1, 1, 1, 1]])

    def test_a_later_end_only_if_it_is_cheaper(self):
        self.assertEqual(ways((1, [(0, ["az", "c"])]), "abc", (0, 0, 3)), [[0, 1, 0, 2, 1, 3]])
        self.assertEqual(ways((1, [(0, ["bz", "az"])]), "abc", (0, 0, 3)), [[0, 1, 0, 2, 2, 3]])

    def test_what_is_left_is_no_symbols_piece(self):
        self.assertEqual(ways((1, [(0, ["az"])]), "abcd", (0, 0, 4), (0, 1, 4)), [[0, 3, 0, 1, 1], [0, 2, 0, 1, 2]])

    def test_the_earlier_of_two_rules(self):
        same = (1, [(0, ["a"]), (0, ["a"]), (0, ["b"])])
        self.assertEqual(ways(same, "ab", (0, 0, 1), (0, 1, 2), (0, 0, 2), (0, 1, 1)),
                         [[0, 0, 0, 1, 1], [0, 0, 2, 1, 2], [0, 1, 0, 1, 1], [0, 1, 0, 1, 1]])

    def test_the_rule_of_an_earlier_round(self):
        grammar = (2, [(0, [1]), (0, ["b"]), (1, ["a"])])
        self.assertEqual(ways(grammar, "a", (0, 0, 0), (0, 0, 1), (1, 0, 1)),
                         [[0, 1, 1, 1, 0], [0, 0, 0, 1, 1], [0, 0, 2, 1, 1]])

    def test_a_ring_of_nonterminals(self):
        ring = (3, [(0, [1]), (1, [2]), (2, [0]), (2, ["a"])])
        self.assertEqual(ways(ring, "ab", (0, 0, 2), (1, 0, 2), (2, 0, 2), (0, 1, 1)),
                         [[0, 1, 0, 1, 1], [0, 1, 1, 1, 1], [0, 1, 3, 1, 1], [0, 1, 0, 1, 1]])


class Refused(unittest.TestCase):
    def refused(self, three, told):
        with self.subTest(three=three):
            self.assertEqual(ask(load(*FOUR), text("abc"), cost(*three), way(*three))[2:], [[told], [told]])

    def test_no_nonterminal_of_this_number(self):
        for a in (-1, 4, 5, 20, -HUGE, HUGE):
            self.refused((a, 0, 3), -4)
            self.refused((a, 0, 0), -4)

    def test_no_piece_of_the_text(self):
        for i, j in ((-1, 0), (-1, 3), (-1, -1), (0, 4), (4, 4), (3, 4), (1, 0), (3, 2), (3, 0), (0, -1), (4, 3),
                     (-HUGE, HUGE), (0, HUGE), (-HUGE, 0), (HUGE, HUGE), (-HUGE, -HUGE), (HUGE, -HUGE), (2, -HUGE)):
            for a in range(4):
                self.refused((a, i, j), -5)

    def test_no_nonterminal_is_told_ahead_of_no_piece(self):
        for a in (-1, 4, -HUGE, HUGE):
            for i, j in ((-1, 0), (1, 0), (0, 4), (HUGE, HUGE), (HUGE, -HUGE)):
                self.refused((a, i, j), -4)

    def test_no_piece_is_told_ahead_of_no_cell(self):
        for i, j in ((-1, 0), (1, 0), (0, 4)):
            self.refused((2, i, j), -5)
        self.refused((2, 0, 3), 1)

    def test_a_refusal_leaves_the_object_as_it_was(self):
        got = ask(load(*FOUR), costs(2, 3, 4), text("ab"), way(0, 0, 2), way(4, 0, 2), cost(0, 0, 3), way(0, 0, 2))
        self.assertEqual(got[3:], [[0, 3, 0, 2, 1, 1], [-4], [-5], [0, 3, 0, 2, 1, 1]])


class WhatIsHeld(unittest.TestCase):
    def test_the_bounds_are_those_of_the_held_grammar_and_text(self):
        got = ask(cost(0, 0, 0), cost(0, 0, 1), text("a"), cost(0, 0, 1), cost(1, 0, 1), load(2, [(1, ["a"])]),
                  cost(1, 0, 1), text(""), cost(1, 0, 1), cost(1, 0, 0), load(1, []), cost(1, 0, 0))
        self.assertEqual(got, [[1], [-5], [0], [1], [-4], [0], [0, 0], [0], [-5], [0, 1], [0], [-4]])

    def test_new_costs_are_gone_by(self):
        got = ask(load(*BRACKETS), text("(a"), cost(0, 0, 1), costs(5, 6, 7), cost(0, 0, 1), cost(0, 0, 0))
        self.assertEqual(got[2:], [[0, 1], [0], [0, 7], [0, 5]])

    def test_asking_changes_nothing(self):
        got = ask(load(*BRACKETS), text("(("), way(0, 0, 2), cost(0, 1, 2), way(0, 0, 2), LEAST, way(0, 0, 2), APPLY,
                  cost(0, 0, 1))
        self.assertEqual([got[2], got[4], got[6]], [[0, 2, 1, 1, 1]] * 3)
        self.assertEqual([got[3], got[5], got[8]], [[0, 1], [0, 2], [0, 0]])


if __name__ == "__main__":
    unittest.main()
