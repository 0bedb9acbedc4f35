"""Many made-up grammars: the program against the document's words followed slowly."""

import itertools
import random
import unittest

from helper import LEAST, REPAIR, Model, ask, costs, distance, grammar_row, is_read, load, price, text
from leastrepairs.cells import find_cells
from leastrepairs.grammar import read_grammar
from leastrepairs.pieces import PUT_IN, Costs
from leastrepairs.telling import told_repair

SIGNS = "abc"


def made_symbol(chance, nonterminals):
    if chance.random() < 0.5:
        return chance.randrange(nonterminals)
    return "".join(sorted(chance.choice(SIGNS) for end in range(2)))


def made_case(seed):
    chance = random.Random(seed)
    nonterminals = chance.randint(1, 4)
    rules = [(chance.randrange(nonterminals),
              [made_symbol(chance, nonterminals) for place in range(chance.choice((0, 1, 1, 2, 2, 3)))])
             for number in range(chance.randint(1, 8))]
    signs = "".join(chance.choice(SIGNS + "d") for place in range(chance.randint(0, 4)))
    highest = chance.choice((1, 2, 9))
    prices = tuple(chance.randint(1, highest) for each in range(3))
    return nonterminals, rules, signs, prices


def found_cells(nonterminals, rules, signs, prices):
    grammar = read_grammar(grammar_row(nonterminals, rules))
    return find_cells(grammar, [ord(sign) for sign in signs], Costs(*prices))


def program(nonterminals, rules, signs, prices):
    return ask(load(nonterminals, rules), costs(*prices), text(signs), LEAST, REPAIR)[3:]


class AgainstWords(unittest.TestCase):
    def test_cells_and_told_repairs(self):
        answered = 0
        for seed in range(3000):
            nonterminals, rules, signs, prices = made_case(seed)
            model = Model(rules, signs, prices)
            with self.subTest(rules=rules, signs=signs, prices=prices):
                self.assertEqual(program(nonterminals, rules, signs, prices), [model.least(), model.repair()])
            answered += model.least() != [1]
        self.assertGreater(answered, 1000)

    def test_every_cell_is_as_told(self):
        for seed in range(3000, 4000):
            nonterminals, rules, signs, prices = made_case(seed)
            cells = found_cells(nonterminals, rules, signs, prices)
            found = {key: (cell.cost, cell.rule, tuple(cell.ends)) for key, cell in cells.found.items()}
            with self.subTest(rules=rules, signs=signs, prices=prices):
                self.assertEqual(found, Model(rules, signs, prices).cells)


class WhatARepairIs(unittest.TestCase):
    def test_it_is_read_and_costs_what_least_tells(self):
        for seed in range(4000, 6000):
            nonterminals, rules, signs, prices = made_case(seed)
            least, repair = program(nonterminals, rules, signs, prices)
            if repair[0] == 0:
                mended = "".join(chr(byte) for byte in repair[2:])
                with self.subTest(rules=rules, signs=signs, prices=prices, mended=mended):
                    self.assertTrue(is_read(nonterminals, rules, mended))
                    self.assertEqual(distance(signs, mended, prices), least[1])

    def test_its_changes_go_from_left_to_right_and_cost_what_least_tells(self):
        for seed in range(4000, 5000):
            nonterminals, rules, signs, prices = made_case(seed)
            cells = found_cells(nonterminals, rules, signs, prices)
            whole = cells.at(0, 0, len(signs))
            if whole is not None and whole.cost < 64:
                changes = told_repair(cells)
                with self.subTest(rules=rules, signs=signs, prices=prices, changes=changes):
                    self.assertEqual(price(changes, prices), whole.cost)
                    self.assertEqual([place for kind, place, byte in changes if kind != PUT_IN], list(range(len(signs))))
                    places = [place for kind, place, byte in changes]
                    self.assertEqual(places, sorted(places))

    def test_no_short_text_that_is_read_is_nearer(self):
        short = [""] + ["".join(signs) for length in (1, 2, 3) for signs in itertools.product(SIGNS, repeat=length)]
        for seed in range(6000, 6150):
            nonterminals, rules, signs, prices = made_case(seed)
            least = program(nonterminals, rules, signs, prices)[0]
            read = [other for other in short if is_read(nonterminals, rules, other)]
            with self.subTest(rules=rules, signs=signs, prices=prices):
                if least == [1]:
                    self.assertEqual(read, [])
                elif read:
                    self.assertLessEqual(least[1], min(distance(signs, other, prices) for other in read))


if __name__ == "__main__":
    unittest.main()
