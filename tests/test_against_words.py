"""Many made-up grammars: the program against the document's words followed slowly."""

import itertools
import random
import unittest

from helper import CHANGES, LEAST, REPAIR, Model, ask, cost, costs, distance, is_read, load, text, way

SIGNS = "abc"


def made_symbol(chance, nonterminals):
    if chance.random() < 0.5:
        return chance.randrange(nonterminals)
    return "".join(sorted(chance.choice(SIGNS) for end in range(2)))


def made_case(seed):
    chance = random.Random(seed)
    nonterminals = chance.randint(1, 4)
    rules = [(chance.randrange(nonterminals),
              [made_symbol(chance, nonterminals) for place in range(chance.choice((0, 1, 1, 2, 2, 3)))])
             for number in range(chance.randint(1, 8))]
    signs = "".join(chance.choice(SIGNS + "d") for place in range(chance.randint(0, 4)))
    highest = chance.choice((1, 2, 9))
    prices = tuple(chance.randint(1, highest) for each in range(3))
    return nonterminals, rules, signs, prices


def program(nonterminals, rules, signs, prices, *asked):
    return ask(load(nonterminals, rules), costs(*prices), text(signs), *asked)[3:]


def change_text(signs, changes):
    """The text that comes of the told changes of a text, all other bytes kept."""
    rest = list(changes)
    told = []
    for place in range(len(signs) + 1):
        kept = place < len(signs)
        while rest and rest[0][1] == place:
            kind, _, byte = rest.pop(0)
            if kind != 1:
                told.append(byte)
            if kind != 2:
                kept = False
        if kept:
            told.append(ord(signs[place]))
    assert not rest
    return told


class AgainstWords(unittest.TestCase):
    def test_least_repair_and_changes(self):
        answered = 0
        for seed in range(3000):
            nonterminals, rules, signs, prices = made_case(seed)
            model = Model(rules, signs, prices)
            with self.subTest(rules=rules, signs=signs, prices=prices):
                self.assertEqual(program(nonterminals, rules, signs, prices, LEAST, REPAIR, CHANGES),
                                 [model.least(), model.repair(), model.changes()])
            answered += model.least() != [1]
        self.assertGreater(answered, 1000)

    def test_every_cell(self):
        for seed in range(3000, 4000):
            nonterminals, rules, signs, prices = made_case(seed)
            model = Model(rules, signs, prices)
            places = range(len(signs) + 1)
            threes = [(a, i, j) for a in range(nonterminals) for i in places for j in places[i:]]
            with self.subTest(rules=rules, signs=signs, prices=prices):
                self.assertEqual(program(nonterminals, rules, signs, prices, *[way(*three) for three in threes]),
                                 [model.way(*three) for three in threes])
                self.assertEqual(program(nonterminals, rules, signs, prices, *[cost(*three) for three in threes]),
                                 [model.cost(*three) for three in threes])


class WhatARepairIs(unittest.TestCase):
    def test_it_is_read_and_costs_what_least_tells(self):
        for seed in range(4000, 6000):
            nonterminals, rules, signs, prices = made_case(seed)
            least, repair = program(nonterminals, rules, signs, prices, LEAST, REPAIR)
            if repair[0] == 0:
                mended = "".join(chr(byte) for byte in repair[2:])
                with self.subTest(rules=rules, signs=signs, prices=prices, mended=mended):
                    self.assertTrue(is_read(nonterminals, rules, mended))
                    self.assertEqual(distance(signs, mended, prices), least[1])

    def test_its_changes_make_it_and_cost_what_least_tells(self):
        for seed in range(4000, 6000):
            nonterminals, rules, signs, prices = made_case(seed)
            least, repair, flat = program(nonterminals, rules, signs, prices, LEAST, REPAIR, CHANGES)
            if flat[0] == 0:
                changes = [tuple(flat[k:k + 3]) for k in range(2, len(flat), 3)]
                with self.subTest(rules=rules, signs=signs, prices=prices, changes=changes):
                    self.assertEqual(flat[1], len(changes))
                    self.assertEqual(change_text(signs, changes), repair[2:])
                    each = {2: prices[0], 1: prices[1], 3: prices[2]}
                    self.assertEqual(sum(each[kind] for kind, place, byte in changes), least[1])
                    touched = [place for kind, place, byte in changes if kind != 2]
                    self.assertEqual(touched, sorted(set(touched)))

    def test_no_short_text_that_is_read_is_nearer(self):
        short = [""] + ["".join(signs) for length in (1, 2, 3) for signs in itertools.product(SIGNS, repeat=length)]
        for seed in range(6000, 6150):
            nonterminals, rules, signs, prices = made_case(seed)
            least = program(nonterminals, rules, signs, prices, LEAST)[0]
            read = [other for other in short if is_read(nonterminals, rules, other)]
            with self.subTest(rules=rules, signs=signs, prices=prices):
                if least == [1]:
                    self.assertEqual(read, [])
                elif read:
                    self.assertLessEqual(least[1], min(distance(signs, other, prices) for other in read))


if __name__ == "__main__":
    unittest.main()
