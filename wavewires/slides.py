"""Slides: rows that let each other by, and the steps by which a circuit becomes shorter."""

from wavewires.circuits import wires_of
from wavewires.errors import NoStep


def inner_row(row):
    return row[2] if row[0] == "where" else row


def flips(row, wire):
    # True where the row flips the wire, False where it holds it, None where it does neither.
    if row[0] in ("swing", "cross"):
        return None
    return row[0] == "flip" or (row[0] == "tie" and row[2] == wire)


def both_alike(one, other, wire):
    first = flips(one, wire)
    return first is not None and first == flips(other, wire)


def asks_for(row, look, mark):
    return row[0] == "where" and look[0] == "look" and row[1] == mark


def lets_by(one, other, mark=None):
    if one[0] == "look" and other[0] == "look":
        return False
    if asks_for(one, other, mark) or asks_for(other, one, mark):
        return False
    shared = [wire for wire in wires_of(one) if wire in wires_of(other)]
    return all([both_alike(inner_row(one), inner_row(other), wire) for wire in shared])


def undone_by(one, other):
    if one[0] in ("turn", "look"):
        return False
    if one[0] in ("sign", "cross"):
        return one[0] == other[0] and wires_of(one) == wires_of(other)
    return one == other


def steps_for_two(rows, p):
    # Looks between are asked as of unlike marks: the look for the mark of a where row at p stands ahead of p.
    steps = []
    for q in range(p + 1, len(rows)):
        if undone_by(rows[p], rows[q]):
            steps.append(("gone", p, q))
        if rows[p][0] == "turn" and rows[p][:2] == rows[q][:2]:
            steps.append(("joined", p, q))
        if not lets_by(rows[p], rows[q]):
            return steps
    return steps


def swung_row(row, wire):
    # What a row is between two swings of a wire, or None where it may not stand there.
    if row[0] == "where":
        return ("where", row[1], swung_row(row[2], wire))
    if row == ("flip", wire):
        return ("turn", wire, 4)
    if row == ("turn", wire, 4):
        return ("flip", wire)
    if row[0] == "tie" and row[2] == wire:
        return ("sign", row[1], wire)
    if row[0] == "sign":
        return ("tie", row[2] if row[1] == wire else row[1], wire)
    return None


def steps_for_three(rows, p):
    if rows[p][0] != "swing":
        return []
    wire = rows[p][1]
    # The wire may stand in one row alone between the swings.
    at = [q for q in range(p + 1, len(rows)) if wire in wires_of(rows[q])][:2]
    if len(at) == 2 and rows[at[1]] == rows[p] and swung_row(rows[at[0]], wire) is not None:
        return [("swung", p, at[0], at[1])]
    return []


def slides_of(circuit):
    rows = circuit[1]
    steps = []
    for p in range(len(rows)):
        steps.extend(steps_for_two(rows, p))
        steps.extend(steps_for_three(rows, p))
    return sorted(steps)


def joined(one, other):
    e = (one[2] + other[2]) % 8
    return None if e == 0 else ("turn", one[1], e)


def changed_by(rows, step):
    # By their places the rows that come for others; for those that go, None.
    if step[0] == "gone":
        return {step[1]: None, step[2]: None}
    if step[0] == "joined":
        return {step[1]: None, step[2]: joined(rows[step[1]], rows[step[2]])}
    return {step[1]: None, step[2]: swung_row(rows[step[2]], rows[step[1]][1]), step[3]: None}


def slid(circuit, step):
    if step not in slides_of(circuit):
        raise NoStep("the step does not fit the circuit")
    changes = changed_by(circuit[1], step)
    rows = [changes.get(k, circuit[1][k]) for k in range(len(circuit[1]))]
    return (circuit[0], tuple([row for row in rows if row is not None]))
