"""Runs: from a place through a circuit, parted at each look."""

from wavewires.circuits import looks_in
from wavewires.ring import NOUGHT
from wavewires.states import beginning, done, whole, worth


def left_by(state, bit, mark):
    found = bit if mark == 1 else 0
    return tuple([state[p] if p & bit == found else NOUGHT for p in range(len(state))])


def is_nought(state):
    return all([x == NOUGHT for x in state])


def parted(branch, wire):
    # Once a state is nought everywhere no row changes it, so it is left out here already.
    bit = worth(len(branch[1]).bit_length() - 1, wire)
    pairs = [(branch[0] + (mark,), left_by(branch[1], bit, mark)) for mark in (0, 1)]
    return [pair for pair in pairs if not is_nought(pair[1])]


def gone_on(branch, row):
    return (branch[0], done(branch[1], row))


def due_gone_on(branch, row, go):
    if row[0] != "where":
        return go(branch, row)
    return go(branch, row[2]) if branch[0][row[1]] == 1 else branch


def gone_through(rows, begun, part, go):
    # Whatever a branch holds behind its marks: `part` parts it by a look, `go` does a plain row to it.
    told = [begun]
    for row in rows:
        if row[0] == "look":
            # Parted in their order, by 0 and then by 1, the branches stay in order.
            further = []
            for branch in told:
                further.extend(part(branch, row[1]))
            told = further
        else:
            told = [due_gone_on(branch, row, go) for branch in told]
    return told


def branches(circuit, place=0):
    return gone_through(circuit[1], ((), beginning(circuit[0], place)), parted, gone_on)


def mark_shares(circuit, place=0):
    return [(branch[0], whole(branch[1])) for branch in branches(circuit, place)]


def word_of(bits):
    if all([bit == 1 for bit in bits]):
        return "sure"
    if all([bit == 0 for bit in bits]):
        return "barred"
    return "open"


def marks_told(circuit, place=0):
    rows = [branch[0] for branch in branches(circuit, place)]
    return [word_of([marks[m] for marks in rows]) for m in range(looks_in(circuit))]
