"""Changes of pieces of a text, and what they cost.

A change is (kind, place, byte): the byte that stands in the new text, or 0
where one is left out; places are those of the text that is changed.
"""

KEPT = 0
LEFT_OUT = 1
PUT_IN = 2
REPLACED = 3


class Costs:
    def __init__(self, putting, leaving, replacing):
        self.putting = putting
        self.leaving = leaving
        self.replacing = replacing


def replacing_is_told(costs):
    return costs.replacing <= costs.putting + costs.leaving


def left_out(i, j):
    return [(LEFT_OUT, place, 0) for place in range(i, j)]


def first_within(lo, hi, letters, i, j):
    for place in range(i, j):
        if lo <= letters[place] <= hi:
            return place
    return None


def range_changes(lo, hi, letters, i, j, costs):
    kept = first_within(lo, hi, letters, i, j)
    if kept is not None:
        return left_out(i, kept) + [(KEPT, kept, letters[kept])] + left_out(kept + 1, j)
    if i < j and replacing_is_told(costs):
        return [(REPLACED, i, lo)] + left_out(i + 1, j)
    return [(PUT_IN, i, lo)] + left_out(i, j)


def range_table(lo, hi, letters, costs):
    return [range_costs_from(lo, hi, letters, i, costs) for i in range(len(letters) + 1)]


def range_costs_from(lo, hi, letters, i, costs):
    instead = costs.replacing if replacing_is_told(costs) else costs.putting + costs.leaving
    row = [costs.putting]
    for place in range(i, len(letters)):
        # Once a byte within the range is found, every longer piece has it too.
        if lo <= letters[place] <= hi:
            instead = 0
        row.append(instead + costs.leaving * (place - i))
    return row
