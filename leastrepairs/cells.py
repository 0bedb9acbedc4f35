"""The cells of a text: for nonterminals and pieces, the cheapest rule and way.

Every symbol has a table: table[i][j - i] is what it costs over the piece from i to j.
"""

from leastrepairs.grammar import NONTERMINAL
from leastrepairs.pieces import range_table

# Stands for the cost where there is no way. It is above every cost: a nonterminal's
# first cell comes of rules at most 20 deep, so of at most 8 ** 20 bytes put in.
NO_WAY = 1000000000000000000000000000000


class Cell:
    def __init__(self, cost, rule, ends):
        self.cost = cost
        self.rule = rule
        self.ends = ends


class Cells:
    def __init__(self, grammar, letters, costs):
        self.grammar = grammar
        self.letters = letters
        self.costs = costs
        self.tables = symbol_tables(grammar, letters, costs)
        self.found = {}

    def at(self, nonterminal, i, j):
        return self.found.get((nonterminal, i, j))

    def known_cost(self, nonterminal, i, j):
        return self.tables[(NONTERMINAL, nonterminal)][i][j - i]

    def put(self, nonterminal, i, j, cell):
        self.found[(nonterminal, i, j)] = cell
        self.tables[(NONTERMINAL, nonterminal)][i][j - i] = cell.cost


def symbol_tables(grammar, letters, costs):
    tables = {}
    for nonterminal in range(grammar.nonterminals):
        tables[(NONTERMINAL, nonterminal)] = empty_table(len(letters))
    for rule in grammar.rules:
        for symbol in rule.symbols:
            if symbol not in tables:
                tables[symbol] = range_table(symbol[1], symbol[2], letters, costs)
    return tables


def empty_table(length):
    return [[NO_WAY] * (length + 1 - i) for i in range(length + 1)]


def find_cells(grammar, letters, costs):
    cells = Cells(grammar, letters, costs)
    touched = [(number, 0) for number in range(len(grammar.rules))]
    while touched:
        lowest_ends = make_round(cells, touched)
        touched = touched_rules(grammar, lowest_ends)
    return cells


# A rule none of whose symbols has become cheaper has the ways it had, and its
# nonterminal's cells cost no more than these: a round need not look at it again.
# So too for pieces that end ahead of every piece that has become cheaper.
def touched_rules(grammar, lowest_ends):
    touched = []
    for number, rule in enumerate(grammar.rules):
        ends = [lowest_ends[symbol] for symbol in rule.symbols if symbol in lowest_ends]
        if ends:
            touched.append((number, min(ends)))
    return touched


def make_round(cells, touched):
    news = {}
    for number, lowest_end in touched:
        look_at_rule(cells, number, lowest_end, news)
    lowest_ends = {}
    for place, cell in news.items():
        cells.put(place[0], place[1], place[2], cell)
        symbol = (NONTERMINAL, place[0])
        lowest_ends[symbol] = min(place[2], lowest_ends.get(symbol, place[2]))
    return lowest_ends


# What is found is put into news alone: the round goes by the cells ahead of it.
def look_at_rule(cells, number, lowest_end, news):
    rule = cells.grammar.rules[number]
    tables = [cells.tables[symbol] for symbol in rule.symbols]
    for j in range(lowest_end, len(cells.letters) + 1):
        rests = cheapest_rests(tables, j, cells.costs.leaving)
        for i, cost in enumerate(rests[0]):
            place = (rule.nonterminal, i, j)
            known = news[place].cost if place in news else cells.known_cost(rule.nonterminal, i, j)
            if cost < known:
                news[place] = Cell(cost, number, first_cheapest_ends(tables, rests, i, j))


# rests[k][p] is what the symbols from number k on cost over the piece from p to j.
def cheapest_rests(tables, j, leaving):
    rest = [leaving * (j - p) for p in range(j + 1)]
    rests = [rest]
    for table in reversed(tables):
        rest = [cheapest_sum(table[p], rest[p:]) for p in range(j + 1)]
        rests.append(rest)
    rests.reverse()
    return rests


def cheapest_sum(symbol_costs, rest_costs):
    return min([first + second for first, second in zip(symbol_costs, rest_costs)])


def first_cheapest_ends(tables, rests, i, j):
    ends = []
    begin = i
    for k, table in enumerate(tables):
        end = begin
        while table[begin][end - begin] + rests[k + 1][end] > rests[k][begin]:
            end += 1
        ends.append(end)
        begin = end
    return ends
