"""Lists of calls for the tests, and the document's words followed step by step, slowly.

Rules are (nonterminal, symbols); a symbol is a whole number for a nonterminal,
or a text of one sign (that byte) or two signs (from the first to the second).
"""

import itertools

from leastrepairs.mending import answers
from leastrepairs.pieces import KEPT, LEFT_OUT, PUT_IN, REPLACED

BRACKETS = (1, [(0, ["(", 0, ")"]), (0, ["a"])])


def symbol_numbers(symbol):
    if isinstance(symbol, int):
        return [0, symbol]
    return [1, ord(symbol[0]), ord(symbol[-1])]


def grammar_row(nonterminals, rules):
    row = [nonterminals, len(rules)]
    for nonterminal, symbols in rules:
        row += [nonterminal, len(symbols)]
        for symbol in symbols:
            row += symbol_numbers(symbol)
    return row


def load_row(row):
    return [0, len(row)] + list(row)


def load(nonterminals, rules):
    return load_row(grammar_row(nonterminals, rules))


def costs(i, d, r):
    return [1, i, d, r]


def text_row(row):
    return [2, len(row)] + list(row)


def text(signs):
    return text_row([ord(sign) for sign in signs])


LEAST = [3]
REPAIR = [4]


def ask(*calls):
    """The answers of the calls, one list for each."""
    flat = answers(list(itertools.chain.from_iterable(calls)))
    split = []
    place = 0
    while place < len(flat):
        end = place + 1 + flat[place]
        split.append(flat[place + 1:end])
        place = end
    assert place == len(flat)
    assert len(split) == len(calls)
    return split


def repair_answer(signs):
    return [0, len(signs)] + [ord(sign) for sign in signs]


def distance(first, second, prices):
    """The least cost of changes that make the second text of the first."""
    put, leave, swap = prices
    row = [put * k for k in range(len(second) + 1)]
    for a in first:
        below = [row[0] + leave]
        for k, b in enumerate(second):
            below.append(min(row[k + 1] + leave, below[k] + put, row[k] + (0 if a == b else swap)))
        row = below
    return row[-1]


def price(changes, prices):
    each = {KEPT: 0, PUT_IN: prices[0], LEFT_OUT: prices[1], REPLACED: prices[2]}
    return sum(each[kind] for kind, place, byte in changes)


def is_read(nonterminals, rules, signs):
    """Whether the grammar reads the text, by the words on pieces alone."""
    length = len(signs)
    covered = set()

    def row_covers(symbols, i, j):
        ends = {i}
        for symbol in symbols:
            if isinstance(symbol, int):
                ends = {e for p in ends for e in range(p, j + 1) if (symbol, p, e) in covered}
            else:
                ends = {p + 1 for p in ends if p < j and symbol[0] <= signs[p] <= symbol[-1]}
        return j in ends

    grown = True
    while grown:
        grown = False
        for nonterminal, symbols in rules:
            for i in range(length + 1):
                for j in range(i, length + 1):
                    if (nonterminal, i, j) not in covered and row_covers(symbols, i, j):
                        covered.add((nonterminal, i, j))
                        grown = True
    return (0, 0, length) in covered


class Model:
    """The cells and the told repair, found just as the document tells them."""

    def __init__(self, rules, signs, prices):
        self.rules = rules
        self.signs = signs
        self.prices = prices
        self.cells = {}
        while self.make_round():
            pass

    def range_cost(self, symbol, i, j):
        within = [chr(byte) for byte in range(ord(symbol[0]), ord(symbol[-1]) + 1)]
        return min(distance(self.signs[i:j], byte, self.prices) for byte in within)

    def symbol_cost(self, symbol, i, j):
        if isinstance(symbol, int):
            return self.cells[(symbol, i, j)][0] if (symbol, i, j) in self.cells else None
        return self.range_cost(symbol, i, j)

    def first_cheapest_way(self, symbols, i, j):
        first = None
        # These come in the order in which equally cheap ways are compared.
        for ends in itertools.combinations_with_replacement(range(i, j + 1), len(symbols)):
            begins = (i,) + ends
            parts = [self.symbol_cost(s, b, e) for s, b, e in zip(symbols, begins, ends)]
            if None not in parts:
                cost = sum(parts) + self.prices[1] * (j - begins[-1])
                if first is None or cost < first[0]:
                    first = (cost, ends)
        return first

    def make_round(self):
        after = dict(self.cells)
        for number, (nonterminal, symbols) in enumerate(self.rules):
            for i in range(len(self.signs) + 1):
                for j in range(i, len(self.signs) + 1):
                    way = self.first_cheapest_way(symbols, i, j)
                    key = (nonterminal, i, j)
                    if way is not None and (key not in after or way[0] < after[key][0]):
                        after[key] = (way[0], number, way[1])
        changed = after != self.cells
        self.cells = after
        return changed

    def least(self):
        cell = self.cells.get((0, 0, len(self.signs)))
        return [1] if cell is None else [0, cell[0]]

    def repair(self):
        if self.least() == [1]:
            return [1]
        told = self.told(0, 0, len(self.signs), [0])
        return [-6] if told is None or len(told) > 64 else repair_answer(told)

    def told(self, symbol, i, j, steps):
        steps[0] += 1
        if not isinstance(symbol, int):
            within = [sign for sign in self.signs[i:j] if symbol[0] <= sign <= symbol[-1]]
            return (within + [symbol[0]])[0]
        number, ends = self.cells[(symbol, i, j)][1:]
        whole = ""
        for inner, begin, end in zip(self.rules[number][1], (i,) + ends, ends):
            part = self.told(inner, begin, end, steps)
            if part is None or steps[0] >= 4000:
                return None
            whole += part
        steps[0] += 1
        return None if steps[0] >= 4000 else whole
