"""The calls on one object that holds a grammar, costs and a text."""

from leastrepairs.cells import find_cells
from leastrepairs.distances import distance_between
from leastrepairs.grammar import HIGHEST_BYTE, START, Grammar, NoGrammarRow, read_grammar
from leastrepairs.pieces import KEPT, Costs
from leastrepairs.telling import TooLong, repaired, told_repair

LOAD = 0
COSTS = 1
TEXT = 2
LEAST = 3
REPAIR = 4
CHANGES = 5
COST = 6
WAY = 7
DISTANCE = 8
APPLY = 9

DONE = 0
NONE_THERE = 1

WRONG_NUMBER = -1
WRONG_ROW = -2
TOO_MANY = -3
NO_NONTERMINAL = -4
OUT_OF_BOUNDS = -5
REPAIR_TOO_LONG = -6

LOWEST_COST = 1
HIGHEST_COST = 9
MOST_LETTERS = 12
MOST_OTHER_LETTERS = 64


class NoSuchCall(Exception):
    pass


class Held:
    def __init__(self):
        self.grammar = Grammar(1, [])
        self.costs = Costs(1, 1, 1)
        self.letters = []
        # Found when they are first asked for, None when they are out of date.
        self.cells = None


class CallReader:
    def __init__(self, calls):
        self.calls = calls
        self.place = 0

    def is_at_end(self):
        return self.place == len(self.calls)

    def take_number(self):
        return self.take_numbers(1)[0]

    def take_numbers(self, how_many):
        begin = self.place
        self.place += how_many
        return self.calls[begin:self.place]

    def take_row(self):
        return self.take_numbers(self.take_number())


def answers(calls):
    held = Held()
    reader = CallReader(calls)
    told = []
    while not reader.is_at_end():
        answer = answer_call(held, reader)
        told.append(len(answer))
        told.extend(answer)
    return told


def answer_call(held, reader):
    call = reader.take_number()
    if call == LOAD:
        return answer_load(held, reader.take_row())
    if call == COSTS:
        return answer_costs(held, reader.take_numbers(3))
    if call == TEXT:
        return answer_text(held, reader.take_row())
    if call == LEAST:
        return answer_least(held)
    if call in (REPAIR, CHANGES, APPLY):
        return answer_by_repair(held, call)
    if call in (COST, WAY):
        return answer_by_cell(held, call, reader.take_numbers(3))
    if call == DISTANCE:
        return answer_distance(held, reader.take_row())
    raise NoSuchCall(f"there is no call with the number {call}")


def answer_load(held, row):
    if any([number < 0 for number in row]):
        return [WRONG_NUMBER]
    try:
        grammar = read_grammar(row)
    except NoGrammarRow:
        return [WRONG_ROW]
    held.grammar = grammar
    held.cells = None
    return [DONE]


def answer_costs(held, three):
    if min(three) < LOWEST_COST or max(three) > HIGHEST_COST:
        return [OUT_OF_BOUNDS]
    held.costs = Costs(three[0], three[1], three[2])
    held.cells = None
    return [DONE]


def answer_text(held, row):
    refusal = refusal_of_bytes(row, MOST_LETTERS)
    if refusal is not None:
        return [refusal]
    hold_text(held, row)
    return [DONE]


def refusal_of_bytes(row, most):
    if any([number < 0 or number > HIGHEST_BYTE for number in row]):
        return WRONG_NUMBER
    if len(row) > most:
        return TOO_MANY
    return None


def hold_text(held, letters):
    held.letters = letters
    held.cells = None


def answer_least(held):
    cell = whole_cell(held)
    if cell is None:
        return [NONE_THERE]
    return [DONE, cell.cost]


def answer_by_repair(held, call):
    if whole_cell(held) is None:
        return [NONE_THERE]
    try:
        changes = told_repair(cells_of(held))
    except TooLong:
        return [REPAIR_TOO_LONG]
    if call == REPAIR:
        return answer_repair(repaired(changes))
    if call == CHANGES:
        return answer_changes(changes)
    return answer_apply(held, repaired(changes))


def answer_repair(letters):
    return [DONE, len(letters)] + letters


def answer_changes(changes):
    told = [change for change in changes if change[0] != KEPT]
    answer = [DONE, len(told)]
    for change in told:
        answer.extend(change)
    return answer


def answer_apply(held, letters):
    if len(letters) > MOST_LETTERS:
        return [TOO_MANY]
    hold_text(held, letters)
    return [DONE]


def answer_by_cell(held, call, three):
    nonterminal = three[0]
    i = three[1]
    j = three[2]
    if nonterminal < 0 or nonterminal >= held.grammar.nonterminals:
        return [NO_NONTERMINAL]
    if i < 0 or j < i or j > len(held.letters):
        return [OUT_OF_BOUNDS]
    cell = cells_of(held).at(nonterminal, i, j)
    if cell is None:
        return [NONE_THERE]
    if call == COST:
        return [DONE, cell.cost]
    return [DONE, cell.cost, cell.rule, len(cell.ends)] + cell.ends


def answer_distance(held, row):
    refusal = refusal_of_bytes(row, MOST_OTHER_LETTERS)
    if refusal is not None:
        return [refusal]
    return [DONE, distance_between(held.letters, row, held.costs)]


def whole_cell(held):
    return cells_of(held).at(START, 0, len(held.letters))


def cells_of(held):
    if held.cells is None:
        held.cells = find_cells(held.grammar, held.letters, held.costs)
    return held.cells
