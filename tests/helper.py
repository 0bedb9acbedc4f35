"""Lists of calls for the tests, and the document's words followed step by step, slowly.

Rules are (nonterminal, symbols); a symbol is a whole number for a nonterminal,
or a text of one sign (that byte) or two signs (from the first to the second).
"""

import itertools

from leastrepairs.mending import answers
from leastrepairs.pieces import KEPT, LEFT_OUT, PUT_IN, REPLACED

BRACKETS = (1, [(0, ["(", 0, ")"]), (0, ["a"])])


def symbol_numbers(symbol):
    if isinstance(symbol, int):
        return [0, symbol]
    return [1, ord(symbol[0]), ord(symbol[-1])]


def grammar_row(nonterminals, rules):
    row = [nonterminals, len(rules)]
    for nonterminal, symbols in rules:
        row += [nonterminal, len(symbols)]
        for symbol in symbols:
            row += symbol_numbers(symbol)
    return row


def load_row(row):
    return [0, len(row)] + list(row)


def load(nonterminals, rules):
    return load_row(grammar_row(nonterminals, rules))


def costs(i, d, r):
    return [1, i, d, r]


def text_row(row):
    return [2, len(row)] + list(row)


def text(signs):
    return text_row([ord(sign) for sign in signs])


def cost(a, i, j):
    return [6, a, i, j]


def way(a, i, j):
    return [7, a, i, j]


def distance_row(row):
    return [8, len(row)] + list(row)


def distance_to(signs):
    return distance_row([ord(sign) for sign in signs])


LEAST = [3]
REPAIR = [4]
CHANGES = [5]
APPLY = [9]


def ask(*calls):
    """The answers of the calls, one list for each."""
    flat = answers(list(itertools.chain.from_iterable(calls)))
    split = []
    place = 0
    while place < len(flat):
        end = place + 1 + flat[place]
        split.append(flat[place + 1:end])
        place = end
    assert place == len(flat)
    assert len(split) == len(calls)
    return split


def repair_answer(signs):
    return [0, len(signs)] + [ord(sign) for sign in signs]


def changes_answer(*changes):
    """Each change is (1, place, 0), or (2, place, sign), or (3, place, sign)."""
    flat = [0, len(changes)]
    for kind, place, sign in changes:
        flat += [kind, place, ord(sign) if sign else 0]
    return flat


def distance(first, second, prices):
    """The least cost of changes that make the second text of the first."""
    put, leave, swap = prices
    row = [put * k for k in range(len(second) + 1)]
    for a in first:
        below = [row[0] + leave]
        for k, b in enumerate(second):
            below.append(min(row[k + 1] + leave, below[k] + put, row[k] + (0 if a == b else swap)))
        row = below
    return row[-1]


def price(changes, prices):
    each = {KEPT: 0, PUT_IN: prices[0], LEFT_OUT: prices[1], REPLACED: prices[2]}
    return sum(each[kind] for kind, place, byte in changes)


def is_read(nonterminals, rules, signs):
    """Whether the grammar reads the text, by the words on pieces alone."""
    length = len(signs)
    covered = set()

    def row_covers(symbols, i, j):
        ends = {i}
        for symbol in symbols:
            if isinstance(symbol, int):
                ends = {e for p in ends for e in range(p, j + 1) if (symbol, p, e) in covered}
            else:
                ends = {p + 1 for p in ends if p < j and symbol[0] <= signs[p] <= symbol[-1]}
        return j in ends

    grown = True
    while grown:
        grown = False
        for nonterminal, symbols in rules:
            for i in range(length + 1):
                for j in range(i, length + 1):
                    if (nonterminal, i, j) not in covered and row_covers(symbols, i, j):
                        covered.add((nonterminal, i, j))
                        grown = True
    return (0, 0, length) in covered


class StepsEnd(Exception):
    pass


class Model:
    """The cells and the told repair, found just as the document tells them."""

    def __init__(self, rules, signs, prices):
        self.rules = rules
        self.signs = signs
        self.prices = prices
        self.range_costs = {}
        self.cells = {}
        while self.make_round():
            pass

    def range_cost(self, symbol, i, j):
        if (symbol, i, j) not in self.range_costs:
            within = [chr(byte) for byte in range(ord(symbol[0]), ord(symbol[-1]) + 1)]
            self.range_costs[symbol, i, j] = min(distance(self.signs[i:j], byte, self.prices) for byte in within)
        return self.range_costs[symbol, i, j]

    def symbol_cost(self, symbol, i, j):
        if isinstance(symbol, int):
            return self.cells[(symbol, i, j)][0] if (symbol, i, j) in self.cells else None
        return self.range_cost(symbol, i, j)

    def first_cheapest_way(self, symbols, i, j):
        first = None
        # These come in the order in which equally cheap ways are compared.
        for ends in itertools.combinations_with_replacement(range(i, j + 1), len(symbols)):
            begins = (i,) + ends
            parts = [self.symbol_cost(s, b, e) for s, b, e in zip(symbols, begins, ends)]
            if None not in parts:
                whole = sum(parts) + self.prices[1] * (j - begins[-1])
                if first is None or whole < first[0]:
                    first = (whole, ends)
        return first

    def make_round(self):
        after = dict(self.cells)
        for number, (nonterminal, symbols) in enumerate(self.rules):
            for i in range(len(self.signs) + 1):
                for j in range(i, len(self.signs) + 1):
                    found = self.first_cheapest_way(symbols, i, j)
                    key = (nonterminal, i, j)
                    if found is not None and (key not in after or found[0] < after[key][0]):
                        after[key] = (found[0], number, found[1])
        changed = after != self.cells
        self.cells = after
        return changed

    def least(self):
        return self.cost(0, 0, len(self.signs))

    def cost(self, a, i, j):
        return [0, self.cells[a, i, j][0]] if (a, i, j) in self.cells else [1]

    def way(self, a, i, j):
        if (a, i, j) not in self.cells:
            return [1]
        whole, number, ends = self.cells[a, i, j]
        return [0, whole, number, len(ends), *ends]

    def mended(self):
        """The text that comes of the told repair and its changes; or the number that refuses it."""
        if self.least() == [1]:
            return 1
        self.steps = 0
        try:
            told = self.told(0, 0, len(self.signs))
        except StepsEnd:
            return -6
        signs = "".join(sign for kind, place, sign in told)
        return -6 if len(signs) > 64 else (signs, [change for change in told if change[0] != "kept"])

    def repair(self):
        mended = self.mended()
        return [mended] if isinstance(mended, int) else repair_answer(mended[0])

    def changes(self):
        mended = self.mended()
        return [mended] if isinstance(mended, int) else changes_answer(*mended[1])

    def step(self):
        self.steps += 1
        if self.steps == 4000:
            raise StepsEnd

    def told(self, symbol, i, j):
        self.step()
        if not isinstance(symbol, int):
            return self.told_of_range(symbol[0], symbol[-1], i, j)
        whole, number, ends = self.cells[symbol, i, j]
        begins = (i,) + ends
        parts = [self.told(s, b, e) for s, b, e in zip(self.rules[number][1], begins, ends)]
        self.step()
        return sum(parts, []) + self.all_left_out(begins[-1], j)

    def told_of_range(self, lo, hi, i, j):
        within = [place for place in range(i, j) if lo <= self.signs[place] <= hi]
        if within:
            kept = within[0]
            return self.all_left_out(i, kept) + [("kept", kept, self.signs[kept])] + self.all_left_out(kept + 1, j)
        put, leave, swap = self.prices
        if i == j or put + leave < swap:
            return [(2, i, lo)] + self.all_left_out(i, j)
        return [(3, i, lo)] + self.all_left_out(i + 1, j)

    def all_left_out(self, i, j):
        return [(1, place, "") for place in range(i, j)]


class SlowObject:
    """The object of the document and its calls, each answered by the words as they stand."""

    def __init__(self):
        self.nonterminals = 1
        self.rules = []
        self.prices = (1, 1, 1)
        self.signs = ""

    def model(self):
        return Model(self.rules, self.signs, self.prices)

    def load(self, nonterminals, rules):
        self.nonterminals = nonterminals
        self.rules = rules
        return [0]

    def costs(self, *three):
        if not all(1 <= number <= 9 for number in three):
            return [-5]
        self.prices = three
        return [0]

    def text(self, row):
        if not all(0 <= number <= 255 for number in row):
            return [-1]
        if len(row) > 12:
            return [-3]
        self.signs = "".join(chr(number) for number in row)
        return [0]

    def least(self):
        return self.model().least()

    def repair(self):
        return self.model().repair()

    def changes(self):
        return self.model().changes()

    def by_cell(self, told, a, i, j):
        if not 0 <= a < self.nonterminals:
            return [-4]
        if i < 0 or j < i or j > len(self.signs):
            return [-5]
        return told(self.model(), a, i, j)

    def cost(self, a, i, j):
        return self.by_cell(Model.cost, a, i, j)

    def way(self, a, i, j):
        return self.by_cell(Model.way, a, i, j)

    def distance(self, row):
        if not all(0 <= number <= 255 for number in row):
            return [-1]
        if len(row) > 64:
            return [-3]
        return [0, distance(self.signs, "".join(chr(number) for number in row), self.prices)]

    def apply(self):
        mended = self.model().mended()
        if isinstance(mended, int):
            return [mended]
        if len(mended[0]) > 12:
            return [-3]
        self.signs = mended[0]
        return [0]
