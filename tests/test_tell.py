"""[11.2] From text to text."""

import random
import unittest

from wavewires import tell
from wavewires.errors import BadRow
from wavewires.reading import read, shown
from wavewires.runs import branches, mark_shares, marks_told
from wavewires.slides import slides_of
from wavewires.tell import told_text

from reckoning import all_bits, any_circuit, check_arguments, check_told_alike, repeating_circuit


def told_rows(circuit):
    """The rows ahead of `shorter`, each told as a list of its words."""
    told = []
    for (marks, state), (same, share) in zip(branches(circuit), mark_shares(circuit)):
        told.append(["marks", "".join(map(str, marks)) or "-"] + [str(part) for part in share])
        for bits, x in zip(all_bits(circuit[0]), state):
            if any(x):
                told.append(["at", "".join(map(str, bits))] + [str(part) for part in x])
    return told + [["mark", str(m), word] for m, word in enumerate(marks_told(circuit))]


class Told(unittest.TestCase):
    def check_told(self, circuit):
        answer = told_text(shown(circuit))
        self.assertIs(type(answer), str)
        rows = answer.split("\n")
        due = [" ".join(words) for words in told_rows(circuit)]
        self.assertEqual(rows[:len(due)], due)
        rest = rows[len(due):]
        self.assertEqual(rest[0], "shorter " + str(len(rest) - 2))
        short = read("\n".join(rest[1:]))
        self.assertEqual((short[0], len(short[1])), (circuit[0], len(rest) - 2))
        self.assertEqual(slides_of(short), [])
        for place in (0, 2 ** circuit[0] - 1):
            self.assertEqual(branches(short, place), branches(circuit, place))
        return answer

    def test_told_ones(self):
        told = (
            ("wires 1", "marks - 1 0 0\nat 0 1 0 0 0 0\nshorter 0\nwires 1"),
            ("wires 1\nflip 0", "marks - 1 0 0\nat 1 1 0 0 0 0\nshorter 1\nwires 1\nflip 0"),
            ("wires 2\nflip 1", "marks - 1 0 0\nat 01 1 0 0 0 0\nshorter 1\nwires 2\nflip 1"),
            ("wires 1\nlook 0", "marks 0 1 0 0\nat 0 1 0 0 0 0\nmark 0 barred\nshorter 1\nwires 1\nlook 0"),
            ("wires 1\nflip 0\nlook 0", "\n".join((
                "marks 1 1 0 0", "at 1 1 0 0 0 0", "mark 0 sure", "shorter 2", "wires 1", "flip 0", "look 0"))),
            ("wires 1\nswing 0\nlook 0", "\n".join((
                "marks 0 1 0 1", "at 0 1 0 0 0 1", "marks 1 1 0 1", "at 1 1 0 0 0 1", "mark 0 open", "shorter 2",
                "wires 1",
                "swing 0", "look 0"))),
            ("wires 1\nswing 0\nswing 0", "marks - 1 0 0\nat 0 1 0 0 0 0\nshorter 0\nwires 1"),
            # Numbers below nought, in states and in shares.
            ("wires 1\nflip 0\nturn 0 4", "marks - 1 0 0\nat 1 -1 0 0 0 0\nshorter 2\nwires 1\nflip 0\nturn 0 4"),
            ("wires 1\nflip 0\nturn 0 7", "marks - 1 0 0\nat 1 0 0 0 -1 0\nshorter 2\nwires 1\nflip 0\nturn 0 7"),
            ("wires 1\nflip 0\nswing 0", "\n".join((
                "marks - 1 0 0", "at 0 1 0 0 0 1", "at 1 -1 0 0 0 1", "shorter 2", "wires 1", "flip 0", "swing 0"))),
            ("wires 1\nswing 0\nturn 0 1\nswing 0\nlook 0", "\n".join((
                "marks 0 2 1 2", "at 0 1 1 0 0 2", "marks 1 2 -1 2", "at 1 1 -1 0 0 2", "mark 0 open", "shorter 4",
                "wires 1",
                "swing 0", "turn 0 1", "swing 0", "look 0"))),
            ("wires 2\nswing 0\ntie 0 1\nlook 1\nwhere 0 flip 0\nlook 0", "\n".join((
                "marks 00 1 0 1", "at 00 1 0 0 0 1", "marks 10 1 0 1", "at 01 1 0 0 0 1", "mark 0 open",
                "mark 1 barred",
                "shorter 5", "wires 2", "swing 0", "tie 0 1", "look 1", "where 0 flip 0", "look 0"))))
        for text, answer in told:
            self.assertEqual(told_text(text), answer, text)
            self.check_told(read(text))

    def test_any(self):
        chance = random.Random(1)
        below = 0
        for turn in range(60):
            wires = chance.randint(1, 4)
            self.check_told(repeating_circuit(chance, wires, chance.choice((3, 10, 25)), chance.randint(0, 3)))
            below += " -" in self.check_told(any_circuit(chance, wires, chance.choice((6, 14)), chance.randint(0, 6)))
        self.assertGreater(below, 10)

    def test_at_the_bounds(self):
        chance = random.Random(2)
        for wires, looks in ((1, 6), (6, 0), (6, 6)):
            answer = self.check_told(any_circuit(chance, wires, 60, looks))
            marks = [row.split()[1] for row in answer.split("\n") if row.startswith("mark ")]
            self.assertEqual(marks, list("012345"[:looks]))
        rows = "\n".join(f"swing {wire}\nlook {wire}" for wire in range(6))
        answer = told_text("wires 6\n" + rows)
        self.assertEqual(answer.count("marks "), 64)
        self.assertIn("marks 101101 1 0 6\nat 101101 1 0 0 0 6\nmarks 101110 1 0 6\n", answer)

    def test_texts_that_write_no_circuit(self):
        told = (
            ("", 1), ("wires 0", 1), ("wires 7", 1), ("wires", 1), ("swing 0", 1), ("wires 1\n", 2), ("\nwires 1", 1),
            ("wires 1 ", 1),
            ("wires\t1", 1), ("wires 1\nwires 1", 2), ("wires 1\nswing 1", 2), ("wires 2\nswing 0\ntie 0 0", 3),
            ("wires 1\nturn 0 0", 2),
            ("wires 1\nturn 0 8", 2), ("wires 1\nwhere 0 flip 0", 2), ("wires 1\nlook 0\nwhere 1 flip 0", 3),
            ("wires 1\nlook 0\nwhere 0 turn 0 3", 3), ("wires 1" + "\nlook 0" * 7, 8),
            ("wires 1" + "\nflip 0" * 61, 62),
            ("wires 1\nswing 0\nSwing 0\nwires 9", 3), ("wires 1\nswing  0", 2), ("wires 1\nswing 0\t", 2),
            ("wires 1\n\nswing 0", 2))
        for text, row in told:
            with self.assertRaises(BadRow, msg=text) as taken:
                told_text(text)
            self.assertIs(type(taken.exception), BadRow)
            self.assertEqual(taken.exception.row, row, text)

    def test_sixty_rows_are_not_too_many(self):
        self.assertEqual(told_text("wires 1" + "\nflip 0" * 60), "marks - 1 0 0\nat 0 1 0 0 0 0\nshorter 0\nwires 1")

    def test_what_was_handed_in_stays_and_the_same_is_told_alike(self):
        text = shown(any_circuit(random.Random(3), 3, 20, 3))
        check_told_alike(self, [(told_text, (text,)), (told_text, ("wires 6",))])

    def test_arguments_are_those_of_the_interface(self):
        check_arguments(self, tell, [(told_text, "(text)")])


if __name__ == "__main__":
    unittest.main()
