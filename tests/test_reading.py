"""[3.3], [3.4] Circuits' texts, and texts that are refused."""

import random
import re
import unittest

from wavewires import reading
from wavewires.errors import BadRow
from wavewires.reading import read, shown

from reckoning import any_circuit, check_arguments, plain_rows

FORMS = re.compile(
    r"(?:(swing|flip|look) ([0-9])|(turn) ([0-9]) ([1-7])|(tie|sign|cross) ([0-9]) ([0-9])"
    r"|where ([0-9]) (?:(flip) ([0-9])|(turn) ([0-9]) (4)))")


def row_of(line):
    """The row that a line writes, whatever its wires and marks, or None."""
    found = FORMS.fullmatch(line)
    if not found:
        return None
    words = tuple(int(word) if word.isdigit() else word for word in found.groups() if word is not None)
    return ("where", words[0], words[1:]) if isinstance(words[0], int) else words


def what_comes(text):
    """The circuit that a text writes, or the number of its first bad row; by the document's words alone."""
    lines = text.split("\n")
    if not re.fullmatch("wires [1-6]", lines[0]):
        return 1
    wires = int(lines[0][6])
    rows = []
    for number, line in enumerate(lines[1:], 2):
        row = row_of(line)
        if row is None or number > 61:
            return number
        looks = sum(ahead[0] == "look" for ahead in rows)
        inner = row[2] if row[0] == "where" else row
        named = inner[1:2] if inner[0] == "turn" else inner[1:]
        if len(set(named)) < len(named) or max(named) >= wires:
            return number
        if (row[0] == "look" and looks == 6) or (row[0] == "where" and row[1] >= looks):
            return number
        rows.append(row)
    return (wires, tuple(rows))


class ReadingCase(unittest.TestCase):
    def check_read(self, text):
        due = what_comes(text)
        if isinstance(due, tuple):
            told = read(text)
            self.assertEqual(told, due)
            self.assertEqual(repr(told), repr(due))
            self.assertEqual(shown(told), text)
        else:
            self.check_refused(text, due)
        return isinstance(due, tuple)

    def check_refused(self, text, row):
        with self.assertRaises(BadRow, msg=repr(text)) as taken:
            read(text)
        self.assertIs(type(taken.exception), BadRow)
        self.assertEqual((taken.exception.row, type(taken.exception.row)), (row, int), repr(text))


class Shown(ReadingCase):
    def test_told_ones(self):
        rows = (
            ("swing", 0), ("turn", 1, 7), ("flip", 2), ("tie", 0, 5), ("sign", 5, 0), ("cross", 3, 4), ("look", 4),
            ("where", 0, ("flip", 3)), ("look", 0), ("where", 1, ("turn", 2, 4)))
        text = (
            "wires 6\nswing 0\nturn 1 7\nflip 2\ntie 0 5\nsign 5 0\ncross 3 4\nlook 4\nwhere 0 flip 3\nlook 0\n"
            "where 1 turn 2 4")
        self.assertEqual(shown((6, rows)), text)
        self.assertEqual(read(text), (6, rows))
        self.assertIs(type(shown((6, rows))), str)

    def test_without_rows(self):
        for wires in range(1, 7):
            self.assertEqual(shown((wires, ())), f"wires {wires}")
            self.assertEqual(read(f"wires {wires}"), (wires, ()))

    def test_each_row(self):
        for wires in range(1, 7):
            for row in plain_rows(wires) + [("look", wire) for wire in range(wires)]:
                text = f"wires {wires}\n" + " ".join(map(str, row))
                self.assertEqual(shown((wires, (row,))), text)
                self.assertEqual(read(text), (wires, (row,)))
            for mark in range(6):
                looks = (("look", 0),) * (mark + 1)
                for wire in range(wires):
                    for row, words in ((("flip", wire), f"flip {wire}"), (("turn", wire, 4), f"turn {wire} 4")):
                        circuit = (wires, looks + (("where", mark, row),))
                        text = f"wires {wires}" + "\nlook 0" * (mark + 1) + f"\nwhere {mark} {words}"
                        self.assertEqual(shown(circuit), text)
                        self.assertEqual(read(text), circuit)

    def test_circuits_are_read_back(self):
        chance = random.Random(1)
        texts = {}
        for turn in range(300):
            many = chance.choice((1, 7, 20, 59, 60))
            circuit = any_circuit(chance, chance.randint(1, 6), many, chance.randint(0, min(6, many)))
            self.assertTrue(self.check_read(shown(circuit)))
            self.assertEqual(read(shown(circuit)), circuit)
            self.assertEqual(texts.setdefault(shown(circuit), circuit), circuit)


class Refused(ReadingCase):
    def test_first_rows(self):
        for text in (
                "", " ", "\n", "wires", "wires ", "wires 0", "wires 7", "wires 8", "wires 9", "wires 10", "wires 01",
                "wires -1", "wires +1", "wires 1 ", " wires 1", "wires  1", "wires\t1", "wires 1\t", "Wires 1", "WIRES 1",
                "wire 1", "wires 1 1", "wires 1.", "wires one", "wires a", "swing 0", "swing 0\nwires 1", "1", "wires1",
                "\nwires 1", "wires 0\nwires 1", "look 0", "wires 11", "wires 1_", "wires ~", "wires 12"):
            self.check_refused(text, 1)
            self.check_read(text)

    def test_second_rows(self):
        for line in (
                "", " ", "\t", "wires 2", "wires 1", "swing", "swing ", "swing 2", "swing 6", "swing 9", "swing -1",
                "swing 00", "swing 01", "swing 0 ", " swing 0", "swing  0", "swing\t0", "swing 0\t", "Swing 0", "swing 0 1",
                "swing0", "swing a", "swing +0", "turn 0", "turn 0 0", "turn 0 8", "turn 0 9", "turn 0 10", "turn 0 -1",
                "turn 2 1", "turn 0 01", "turn 0 1 1", "turn  0 1", "turn 0  1", "turn 1", "turn", "flip", "flip 2",
                "flip 0 1", "flip 10", "tie 0", "tie 0 0", "tie 1 1", "tie 0 2", "tie 2 0", "tie 0 1 2", "tie 0 1 ",
                "tie 01", "tie", "sign 0", "sign 0 0", "sign 1 1", "sign 0 2", "sign 2 1", "cross 1", "cross 0 0",
                "cross 1 1", "cross 2 0", "cross 1 2", "cross 0, 1", "look", "look 2", "look 0 1", "look -", "look 00",
                "where 0 flip 0", "where 0 turn 0 4", "where", "where 0", "skip", "0", "#", "swing 0 # so", "swing 0;",
                "spin 0", "swings 0", "look 0 flip 1", "tie 0\t1", "nought", "turn 0 4.", "turn 4", "flip zero"):
            self.check_refused("wires 2\n" + line, 2)
            self.check_refused("wires 2\n" + line + "\nswing 0", 2)
            self.check_refused("wires 2\n" + line + "\n\nwires 9", 2)
            self.check_refused("wires 2\nswing 0\nlook 1\ncross 0 1\n" + line.replace("where 0", "where 1"), 5)

    def test_where_rows(self):
        for line in (
                "where 1 flip 0", "where 5 flip 0", "where 6 flip 0", "where 9 flip 0", "where -1 flip 0", "where 0 flip 2",
                "where 0 flip", "where 0 flip 0 0", "where 0 turn 0", "where 0 turn 0 0", "where 0 turn 0 1",
                "where 0 turn 0 2", "where 0 turn 0 3", "where 0 turn 0 5", "where 0 turn 0 6", "where 0 turn 0 7",
                "where 0 turn 0 8", "where 0 turn 2 4", "where 0 turn 0 44", "where 0 swing 0", "where 0 look 0",
                "where 0 tie 0 1", "where 0 sign 0 1", "where 0 cross 0 1", "where 0 where 0 flip 0", "where flip 0",
                "where 0", "where 00 flip 0", "where 0  flip 0", "where 0 flip 0 ", "where 1 turn 0 4", "where 0 flip -"):
            self.check_refused("wires 2\nlook 0\n" + line, 3)
        self.assertEqual(read("wires 2\nlook 0\nwhere 0 flip 0"), (2, (("look", 0), ("where", 0, ("flip", 0)))))
        self.assertEqual(read("wires 2\nlook 0\nwhere 0 turn 1 4"), (2, (("look", 0), ("where", 0, ("turn", 1, 4)))))

    def test_a_look_behind_is_none_ahead(self):
        self.check_refused("wires 1\nwhere 0 flip 0\nlook 0", 2)
        self.check_refused("wires 1\nlook 0\nwhere 1 flip 0\nlook 0", 3)

    def test_a_seventh_look(self):
        six = "wires 1" + "\nlook 0" * 6
        self.assertEqual(read(six), (1, (("look", 0),) * 6))
        self.assertEqual(read(six + "\nwhere 5 flip 0")[1][6], ("where", 5, ("flip", 0)))
        self.check_refused(six + "\nlook 0", 8)
        self.check_refused(six + "\nflip 0\nflip 0\nlook 0\nlook 0", 10)
        self.check_refused(six + "\nwhere 6 flip 0", 8)

    def test_a_row_too_many(self):
        sixty = "wires 1" + "\nflip 0" * 60
        self.assertEqual(read(sixty), (1, (("flip", 0),) * 60))
        for more in ("\nflip 0", "\n", "\nflip 0\nflip 0", "\nwires 1", "\nlook 0", "\nspin 0", "\nflip 0" * 1000):
            self.check_refused(sixty + more, 62)
        self.check_refused("wires 1" + "\nflip 0" * 59 + "\nflip 1\nflip 0", 61)
        self.check_refused("wires 1\nflip 1" + "\nflip 0" * 70, 2)
        self.check_refused("wires 7" + "\nflip 0" * 70, 1)

    def test_rows_end_with_line_feeds_between_them_alone(self):
        self.check_refused("wires 1\n", 2)
        self.check_refused("wires 1\nflip 0\n", 3)
        self.check_refused("wires 1\n\nflip 0", 2)
        self.check_refused("wires 1\nflip 0\n\n", 3)
        self.check_refused("\n\n\n", 1)
        self.check_refused("wires 1 flip 0", 1)

    def test_the_first_bad_row_is_told(self):
        self.check_refused("wires 1\nflip 0\nflip 1\ntie 0 0\nspin", 3)
        self.check_refused("wires 3\nturn 2 8\nturn 3 1", 2)
        self.check_refused("wires 3\nturn 2 1\nturn 3 1\nturn 0 0", 3)

    def test_each_row_beyond_its_wires(self):
        for wires in range(1, 7):
            for row in plain_rows(7):
                self.check_read(f"wires {wires}\n" + " ".join(map(str, row)))

    def test_changed_texts(self):
        chance = random.Random(2)
        good = 0
        for turn in range(4000):
            circuit = any_circuit(chance, chance.randint(1, 4), chance.choice((2, 4, 9, 60)), chance.choice((0, 1, 2)))
            text = shown(circuit)
            for k in range(chance.choice((1, 1, 2))):
                at = chance.randrange(len(text) + 1)
                sign = chance.choice(" \n\t0123456789aefhiloprstuw-+~")
                text = text[:at] + chance.choice(("", sign)) + text[at + chance.choice((0, 1)):]
            good += self.check_read(text)
        self.assertGreater(good, 200)
        self.assertLess(good, 3800)

    def test_mixed_words(self):
        chance = random.Random(3)
        words = ["swing", "turn", "flip", "tie", "sign", "cross", "look", "where", "wires", "0", "1", "2", "4", "8", ""]
        for turn in range(8000):
            line = " ".join(chance.choice(words) for k in range(chance.randint(1, 5)))
            self.check_read("wires 2\nlook 1\n" + line)


class Telling(ReadingCase):
    def test_the_same_is_told_alike(self):
        circuit = any_circuit(random.Random(4), 4, 30, 3)
        self.assertEqual(shown(circuit), shown(circuit))
        self.assertEqual(read(shown(circuit)), read(shown(circuit)))
        for turn in range(2):
            self.check_refused("wires 2\nlook 2", 2)

    def test_arguments_are_those_of_the_interface(self):
        check_arguments(self, reading, ((shown, "(circuit)"), (read, "(text)")))


if __name__ == "__main__":
    unittest.main()
