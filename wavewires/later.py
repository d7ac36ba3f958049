"""Looks put off: a wire for each mark, tied instead of looked at, and looked at behind all rows."""

from wavewires.circuits import MOST_ROWS, MOST_WIRES, looks_in
from wavewires.errors import TooGreat


def where_put_off(row, wires):
    kind = "tie" if row[2][0] == "flip" else "sign"
    return (kind, wires + row[1], row[2][1])


def rows_put_off(rows, wires):
    told = []
    mark = 0
    for row in rows:
        if row[0] == "look":
            told.append(("tie", row[1], wires + mark))
            mark = mark + 1
        elif row[0] == "where":
            told.append(where_put_off(row, wires))
        else:
            told.append(row)
    return told


def put_off(circuit):
    wires = circuit[0]
    looks = looks_in(circuit)
    if wires + looks > MOST_WIRES or len(circuit[1]) + looks > MOST_ROWS:
        raise TooGreat("there would be too many wires or rows")
    behind_all = [("look", wires + mark) for mark in range(looks)]
    return (wires + looks, tuple(rows_put_off(circuit[1], wires) + behind_all))
