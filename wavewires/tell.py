"""From text to text: what a run of a written circuit comes to, and a shorter circuit."""

from wavewires.reading import read, shown
from wavewires.ring import NOUGHT
from wavewires.runs import branches, marks_told
from wavewires.shorten import shortened
from wavewires.states import bits_of, whole


def bits_shown(bits):
    return "".join([str(bit) for bit in bits])


def parts_shown(parts):
    return " ".join([str(part) for part in parts])


def place_row(wires, place, x):
    bits = bits_shown(bits_of(wires, place))
    parts = parts_shown(x)
    return f"at {bits} {parts}"


def branch_rows(wires, branch):
    state = branch[1]
    marks = "-" if branch[0] == () else bits_shown(branch[0])
    parts = parts_shown(whole(state))
    places = [place_row(wires, p, state[p]) for p in range(len(state)) if state[p] != NOUGHT]
    return [f"marks {marks} {parts}"] + places


def mark_row(mark, word):
    return f"mark {mark} {word}"


def mark_rows(circuit):
    words = marks_told(circuit)
    return [mark_row(mark, words[mark]) for mark in range(len(words))]


def shorter_rows(circuit):
    short = shortened(circuit)[1]
    many = len(short[1])
    return [f"shorter {many}", shown(short)]


def told_text(text):
    circuit = read(text)
    rows = []
    for branch in branches(circuit):
        rows.extend(branch_rows(circuit[0], branch))
    return "\n".join(rows + mark_rows(circuit) + shorter_rows(circuit))
