"""Grammars, and the rows of numbers that tell them.

A symbol is (NONTERMINAL, nonterminal) or (RANGE, lo, hi), as in a grammar row.
"""

NONTERMINAL = 0
RANGE = 1

START = 0

MOST_NONTERMINALS = 20
MOST_RULES = 60
MOST_SYMBOLS = 8
HIGHEST_BYTE = 255


class NoGrammarRow(Exception):
    pass


class Rule:
    def __init__(self, nonterminal, symbols):
        self.nonterminal = nonterminal
        self.symbols = symbols


class Grammar:
    def __init__(self, nonterminals, rules):
        self.nonterminals = nonterminals
        self.rules = rules


class RowReader:
    def __init__(self, row):
        self.row = row
        self.place = 0

    def take(self, lowest, highest):
        if self.place == len(self.row):
            raise NoGrammarRow("the row ends too early")
        number = self.row[self.place]
        if number < lowest or number > highest:
            raise NoGrammarRow("a number is out of its bounds")
        self.place += 1
        return number

    def expect_end(self):
        if self.place < len(self.row):
            raise NoGrammarRow("the row goes on behind its last rule")


def read_grammar(row):
    reader = RowReader(row)
    nonterminals = reader.take(1, MOST_NONTERMINALS)
    how_many = reader.take(0, MOST_RULES)
    rules = [read_rule(reader, nonterminals) for number in range(how_many)]
    reader.expect_end()
    return Grammar(nonterminals, rules)


def read_rule(reader, nonterminals):
    nonterminal = reader.take(0, nonterminals - 1)
    how_many = reader.take(0, MOST_SYMBOLS)
    symbols = [read_symbol(reader, nonterminals) for number in range(how_many)]
    return Rule(nonterminal, symbols)


def read_symbol(reader, nonterminals):
    kind = reader.take(NONTERMINAL, RANGE)
    if kind == NONTERMINAL:
        return (NONTERMINAL, reader.take(0, nonterminals - 1))
    lo = reader.take(0, HIGHEST_BYTE)
    hi = reader.take(lo, HIGHEST_BYTE)
    return (RANGE, lo, hi)
