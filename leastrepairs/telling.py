"""The told repair of a text: the changes of the start's cell for all of it."""

from leastrepairs.grammar import NONTERMINAL, RANGE, START
from leastrepairs.pieces import LEFT_OUT, left_out, range_changes

# Stands behind a rule's symbols like one more: over its piece all is left out.
RULE_END = (2,)

TOO_MANY_STEPS = 4000
MOST_BYTES = 64


class TooLong(Exception):
    pass


def told_repair(cells):
    changes = told_changes(cells)
    if len(repaired(changes)) > MOST_BYTES:
        raise TooLong("the repaired text has too many bytes")
    return changes


def repaired(changes):
    return [byte for kind, place, byte in changes if kind != LEFT_OUT]


def told_changes(cells):
    changes = []
    waiting = [((NONTERMINAL, START), 0, len(cells.letters))]
    steps = 0
    while waiting:
        steps += 1
        if steps == TOO_MANY_STEPS:
            raise TooLong("the repair needs too many steps")
        part = waiting.pop()
        if part[0][0] == NONTERMINAL:
            waiting.extend(list(reversed(parts_of_cell(cells, part))))
        else:
            changes.extend(plain_changes(cells, part))
    return changes


def parts_of_cell(cells, part):
    symbol = part[0]
    cell = cells.at(symbol[1], part[1], part[2])
    parts = []
    begin = part[1]
    for inner, end in zip(cells.grammar.rules[cell.rule].symbols, cell.ends):
        parts.append((inner, begin, end))
        begin = end
    parts.append((RULE_END, begin, part[2]))
    return parts


def plain_changes(cells, part):
    symbol = part[0]
    if symbol[0] == RANGE:
        return range_changes(symbol[1], symbol[2], cells.letters, part[1], part[2], cells.costs)
    return left_out(part[1], part[2])
