"""How far a text is from another: the least cost of changes that make the one of the other."""


def distance_between(first, second, costs):
    # row[k] is the distance from the bytes of first gone through so far to the first k of second.
    row = [costs.putting * k for k in range(len(second) + 1)]
    for byte in first:
        row = row_with_byte(row, byte, second, costs)
    return row[-1]


def row_with_byte(row, byte, second, costs):
    longer = [row[0] + costs.leaving]
    for k, other in enumerate(second):
        kept_or_replaced = row[k] + (0 if byte == other else costs.replacing)
        longer.append(min(kept_or_replaced, row[k + 1] + costs.leaving, longer[k] + costs.putting))
    return longer
