"""Circuits written as texts, and texts read back to circuits."""

from wavewires.circuits import MOST_LOOKS, MOST_ROWS, MOST_WIRES
from wavewires.errors import BadRow


def row_shown(row):
    words = row[:2] + row[2] if row[0] == "where" else row
    return " ".join([str(word) for word in words])


def shown(circuit):
    rows = (("wires", circuit[0]),) + circuit[1]
    return "\n".join([row_shown(row) for row in rows])


def wires_rows():
    return [("wires", wires) for wires in range(1, MOST_WIRES + 1)]


def rows_at(wire, wires):
    rows = [("swing", wire), ("flip", wire), ("look", wire)]
    rows.extend([("turn", wire, e) for e in range(1, 8)])
    for mark in range(MOST_LOOKS):
        rows.extend([("where", mark, ("flip", wire)), ("where", mark, ("turn", wire, 4))])
    for other in range(wires):
        if other != wire:
            rows.extend([("tie", wire, other), ("sign", wire, other), ("cross", wire, other)])
    return rows


def rows_over(wires):
    rows = []
    for wire in range(wires):
        rows.extend(rows_at(wire, wires))
    return rows


def by_text(rows):
    # There are few rows that may stand in a circuit: looked up among their texts,
    # a text is read just where it is one that is shown.
    told = {}
    for row in rows:
        told[row_shown(row)] = row
    return told


def may_stand(row, looks):
    if row[0] == "look":
        return looks < MOST_LOOKS
    return row[0] != "where" or row[1] < looks


def rows_read(texts, wires):
    known = by_text(rows_over(wires))
    rows = []
    looks = 0
    for text in texts:
        row = known.get(text)
        if row is None or len(rows) == MOST_ROWS or not may_stand(row, looks):
            # The text's first row is its wires row.
            raise BadRow(len(rows) + 2)
        rows.append(row)
        if row[0] == "look":
            looks = looks + 1
    return tuple(rows)


def read(text):
    texts = text.split("\n")
    first = by_text(wires_rows()).get(texts[0])
    if first is None:
        raise BadRow(1)
    return (first[1], rows_read(texts[1:], first[1]))
