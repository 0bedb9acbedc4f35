"""Lists of all ten calls in many orders: the program against the document's words followed slowly."""

import itertools
import random
import unittest

from helper import (APPLY, BRACKETS, CHANGES, LEAST, REPAIR, SlowObject, ask, cost, costs, distance_row, load, load_row,
                    text_row, way)
from leastrepairs.mending import answers

HUGE = 10 ** 18
GRAMMARS = (
    BRACKETS,
    (1, []),
    (1, [(0, [])]),
    (1, [(0, [0, 0]), (0, ["a"]), (0, ["bc"])]),
    (3, [(0, [1, 2]), (1, ["a", 1]), (1, []), (2, ["c"]), (2, ["b", "b"])]),
    (3, [(0, ["a", 1]), (1, ["c", 0]), (1, ["b"]), (2, [2])]),
    (2, [(0, [1, 1, 1, 1]), (1, ["a"] * 3), (0, ["b"] * 3)]),
    (2, [(0, [1, 1, 1, 1, "c"]), (1, ["a"] * 3)]),
    (3, [(0, [1, 1, 1, 1, "c"]), (1, [2] * 4), (2, ["a"] * 4)]),
    (4, [(0, [1] * 4), (1, [2] * 4), (2, [3] * 4), (3, ["a", "b"])]),
)
REFUSED_ROWS = (([], -2), ([0, 0], -2), ([21, 0], -2), ([1, 1, 0, 9], -2), ([1, 0, -1], -1), ([HUGE], -2), ([-HUGE], -1))


def made_row(chance, most):
    numbers = [ord(sign) for sign in "abc()"]
    row = [chance.choice(numbers) for place in range(chance.randint(0, 4))]
    if chance.random() < 0.1:
        row += [97] * (most + chance.randint(0, 1))
    if chance.random() < 0.1:
        row.append(chance.choice((-1, 0, 255, 256, HUGE, -HUGE)))
    return row


def made_load(chance):
    if chance.random() < 0.2:
        row, told = chance.choice(REFUSED_ROWS)
        return load_row(row), lambda slow: [told]
    nonterminals, rules = chance.choice(GRAMMARS)
    return load(nonterminals, rules), lambda slow: slow.load(nonterminals, rules)


def made_costs(chance):
    three = [chance.randint(1, chance.choice((1, 2, 9))) for each in range(3)]
    if chance.random() < 0.1:
        three[chance.randrange(3)] = chance.choice((0, 10, -HUGE, HUGE))
    return costs(*three), lambda slow: slow.costs(*three)


def made_text(chance):
    row = made_row(chance, 12) if chance.random() < 0.3 else made_row(chance, 0)
    if len(row) > 6 and len(row) <= 12:
        # The slow reading takes long over long texts.
        row = row[:6]
    return text_row(row), lambda slow: slow.text(row)


def made_distance(chance):
    row = made_row(chance, 64)
    return distance_row(row), lambda slow: slow.distance(row)


def made_three(chance):
    i = chance.choice((0, 0, 1, 2))
    three = [chance.choice((0, 0, 0, 1, 2)), i, i + chance.choice((0, 0, 1, 1, 2, 3))]
    if chance.random() < 0.1:
        three[chance.randrange(3)] = chance.choice((-1, 7, 20, -HUGE, HUGE))
    return three


def made_cost(chance):
    three = made_three(chance)
    return cost(*three), lambda slow: slow.cost(*three)


def made_way(chance):
    three = made_three(chance)
    return way(*three), lambda slow: slow.way(*three)


MAKERS = (
    made_load,
    made_costs,
    made_text,
    lambda chance: (LEAST, SlowObject.least),
    lambda chance: (REPAIR, SlowObject.repair),
    lambda chance: (CHANGES, SlowObject.changes),
    made_cost,
    made_way,
    made_distance,
    lambda chance: (APPLY, SlowObject.apply),
)


def slow_answers(made):
    slow = SlowObject()
    return [told(slow) for numbers, told in made]


class ManyOrders(unittest.TestCase):
    def compare(self, made):
        calls = [numbers for numbers, told in made]
        with self.subTest(calls=calls):
            self.assertEqual(ask(*calls), slow_answers(made))

    def test_all_ten_calls_in_shuffled_orders(self):
        seen = set()
        for seed in range(400):
            chance = random.Random(seed)
            made = [maker(chance) for maker in MAKERS]
            chance.shuffle(made)
            self.compare(made)
            # Most orders are of no use without a grammar ahead of them.
            self.compare([made_load(chance)] + made)
            seen.add(tuple(numbers[0] for numbers, told in made))
        self.assertGreater(len(seen), 390)

    def test_every_call_behind_every_other(self):
        chance = random.Random(7)
        ahead = [made_text(chance), (load(*BRACKETS), lambda slow: slow.load(*BRACKETS))]
        for first, second, third in itertools.product(MAKERS, MAKERS, (made_way, MAKERS[4], MAKERS[9])):
            self.compare(ahead + [first(chance), second(chance), third(chance), (LEAST, SlowObject.least)])

    def test_longer_lists(self):
        for seed in range(60):
            chance = random.Random(seed)
            self.compare([chance.choice(MAKERS)(chance) for number in range(30)])


class Whole(unittest.TestCase):
    def made_line(self, length):
        chance = random.Random(length)
        made = [chance.choice(MAKERS)(chance) for number in range(length)]
        return made, [number for numbers, told in made for number in numbers]

    def test_a_hundred_calls(self):
        made, line = self.made_line(100)
        self.assertEqual({numbers[0] for numbers, told in made}, set(range(10)))
        self.assertEqual(ask(*[numbers for numbers, told in made]), slow_answers(made))

    def test_a_hundred_times_each_call(self):
        for maker in MAKERS:
            numbers = maker(random.Random(1))[0]
            told = ask(load(*GRAMMARS[3]), *[numbers] * 99)
            self.assertEqual(told[2:], told[1:2] * 98)

    def test_the_list_is_as_it_was(self):
        for length in (1, 10, 100):
            line = self.made_line(length)[1]
            before = list(line)
            answers(line)
            self.assertEqual(line, before)

    def test_a_second_time_answers_as_the_first(self):
        lines = [self.made_line(length)[1] for length in (100, 50, 20, 1)]
        first = [answers(line) for line in lines]
        self.assertEqual([answers(line) for line in lines], first)
        self.assertEqual([answers(line) for line in reversed(lines)], first[::-1])


if __name__ == "__main__":
    unittest.main()
