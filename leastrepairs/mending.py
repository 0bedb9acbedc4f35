"""The calls on one object that holds a grammar, costs and a text."""

from leastrepairs.cells import find_cells
from leastrepairs.grammar import HIGHEST_BYTE, START, Grammar, NoGrammarRow, read_grammar
from leastrepairs.pieces import Costs
from leastrepairs.telling import TooLong, repaired, told_repair

LOAD = 0
COSTS = 1
TEXT = 2
LEAST = 3
REPAIR = 4

DONE = 0
NONE_THERE = 1

WRONG_NUMBER = -1
WRONG_ROW = -2
TOO_MANY = -3
OUT_OF_BOUNDS = -5
REPAIR_TOO_LONG = -6

LOWEST_COST = 1
HIGHEST_COST = 9
MOST_LETTERS = 12


class NoSuchCall(Exception):
    pass


class Held:
    def __init__(self):
        self.grammar = Grammar(1, [])
        self.costs = Costs(1, 1, 1)
        self.letters = []
        # Found when they are first asked for, None when they are out of date.
        self.cells = None


class CallReader:
    def __init__(self, calls):
        self.calls = calls
        self.place = 0

    def is_at_end(self):
        return self.place == len(self.calls)

    def take_number(self):
        return self.take_numbers(1)[0]

    def take_numbers(self, how_many):
        begin = self.place
        self.place += how_many
        return self.calls[begin:self.place]

    def take_row(self):
        return self.take_numbers(self.take_number())


def answers(calls):
    held = Held()
    reader = CallReader(calls)
    told = []
    while not reader.is_at_end():
        answer = answer_call(held, reader)
        told.append(len(answer))
        told.extend(answer)
    return told


def answer_call(held, reader):
    call = reader.take_number()
    if call == LOAD:
        return answer_load(held, reader.take_row())
    if call == COSTS:
        return answer_costs(held, reader.take_numbers(3))
    if call == TEXT:
        return answer_text(held, reader.take_row())
    if call == LEAST:
        return answer_least(held)
    if call == REPAIR:
        return answer_repair(held)
    raise NoSuchCall(f"there is no call with the number {call}")


def answer_load(held, row):
    if any([number < 0 for number in row]):
        return [WRONG_NUMBER]
    try:
        grammar = read_grammar(row)
    except NoGrammarRow:
        return [WRONG_ROW]
    held.grammar = grammar
    held.cells = None
    return [DONE]


def answer_costs(held, three):
    if min(three) < LOWEST_COST or max(three) > HIGHEST_COST:
        return [OUT_OF_BOUNDS]
    held.costs = Costs(three[0], three[1], three[2])
    held.cells = None
    return [DONE]


def answer_text(held, row):
    if any([number < 0 or number > HIGHEST_BYTE for number in row]):
        return [WRONG_NUMBER]
    if len(row) > MOST_LETTERS:
        return [TOO_MANY]
    held.letters = row
    held.cells = None
    return [DONE]


def answer_least(held):
    cell = whole_cell(held)
    if cell is None:
        return [NONE_THERE]
    return [DONE, cell.cost]


def answer_repair(held):
    if whole_cell(held) is None:
        return [NONE_THERE]
    try:
        letters = repaired(told_repair(cells_of(held)))
    except TooLong:
        return [REPAIR_TOO_LONG]
    return [DONE, len(letters)] + letters


def whole_cell(held):
    return cells_of(held).at(START, 0, len(held.letters))


def cells_of(held):
    if held.cells is None:
        held.cells = find_cells(held.grammar, held.letters, held.costs)
    return held.cells
