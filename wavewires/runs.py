"""Runs: from a place through a circuit, parted at each look."""

from wavewires.circuits import looks_in
from wavewires.ring import NOUGHT
from wavewires.states import beginning, done, whole, worth


def left_by(state, bit, mark):
    found = bit if mark == 1 else 0
    return tuple([state[p] if p & bit == found else NOUGHT for p in range(len(state))])


def is_nought(state):
    return all([x == NOUGHT for x in state])


def parted(branch, bit):
    # Once a state is nought everywhere no row changes it, so it is left out here already.
    pairs = [(branch[0] + (mark,), left_by(branch[1], bit, mark)) for mark in (0, 1)]
    return [pair for pair in pairs if not is_nought(pair[1])]


def gone_on(branch, row):
    if row[0] != "where":
        return (branch[0], done(branch[1], row))
    if branch[0][row[1]] == 0:
        return branch
    return (branch[0], done(branch[1], row[2]))


def branches(circuit, place=0):
    told = [((), beginning(circuit[0], place))]
    for row in circuit[1]:
        if row[0] == "look":
            # Parted in their order, by 0 and then by 1, the branches stay in order.
            further = []
            for branch in told:
                further.extend(parted(branch, worth(circuit[0], row[1])))
            told = further
        else:
            told = [gone_on(branch, row) for branch in told]
    return told


def mark_shares(circuit, place=0):
    return [(branch[0], whole(branch[1])) for branch in branches(circuit, place)]


def word_of(bits):
    if all([bit == 1 for bit in bits]):
        return "sure"
    if all([bit == 0 for bit in bits]):
        return "barred"
    return "open"


def marks_told(circuit, place=0):
    rows = [branch[0] for branch in branches(circuit, place)]
    return [word_of([marks[m] for marks in rows]) for m in range(looks_in(circuit))]
