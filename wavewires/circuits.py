"""Circuits: pairs (wires, rows), turned about, behind one another and side by side."""

from wavewires.errors import HasLooks, TooGreat, UnlikeWires
from wavewires.states import all_plain

MOST_WIRES = 6
MOST_ROWS = 60
MOST_LOOKS = 6


def is_plain(circuit):
    return all_plain(circuit[1])


def looks_in(circuit):
    return len([row for row in circuit[1] if row[0] == "look"])


def wires_of(row):
    if row[0] == "where":
        return wires_of(row[2])
    if row[0] in ("tie", "sign", "cross"):
        return (min(row[1], row[2]), max(row[1], row[2]))
    return (row[1],)


def row_about(row):
    if row[0] == "turn":
        return ("turn", row[1], 8 - row[2])
    return row


def turned_about(circuit):
    if not is_plain(circuit):
        raise HasLooks("a circuit with looks can't be turned about")
    return (circuit[0], tuple([row_about(row) for row in reversed(circuit[1])]))


def counted_on(row, wires, marks):
    if row[0] == "where":
        return ("where", row[1] + marks, counted_on(row[2], wires, marks))
    if row[0] == "turn":
        return ("turn", row[1] + wires, row[2])
    return (row[0],) + tuple([wire + wires for wire in row[1:]])


def rows_together(one, other, wires):
    looks = looks_in(one)
    rows = one[1] + tuple([counted_on(row, wires, looks) for row in other[1]])
    if len(rows) > MOST_ROWS or looks + looks_in(other) > MOST_LOOKS:
        raise TooGreat("there would be too many rows or looks")
    return rows


def behind(one, other):
    if one[0] != other[0]:
        raise UnlikeWires("the circuits have unlike numbers of wires")
    return (one[0], rows_together(one, other, 0))


def side_by_side(one, other):
    if one[0] + other[0] > MOST_WIRES:
        raise TooGreat("there would be too many wires")
    return (one[0] + other[0], rows_together(one, other, one[0]))
