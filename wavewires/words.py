"""Words: tuples (x, z, s) that flip the wires of x and sign those of z, turned by 2 * s; carried through plain rows."""

from wavewires.errors import OddTurn
from wavewires.ring import turned
from wavewires.states import exchanged, worth
from wavewires.sums import value_of


def word_times(one, other):
    # One's signs are asked at the place to which other has led: for x of other they are put the other way.
    s = one[2] + other[2] + 2 * value_of(one[1], other[0])
    return (one[0] ^ other[0], one[1] ^ other[1], s % 4)


def agree(one, other):
    return word_times(one, other) == word_times(other, one)


def is_straight(word):
    return word_times(word, word) == (0, 0, 0)


def word_done(state, word):
    # What is at a place p comes from the place p ^ x.
    told = []
    for p in range(len(state)):
        begun = p ^ word[0]
        told.append(turned(state[begun], 2 * word[2] + 4 * value_of(begun, word[1])))
    return tuple(told)


def swing_carried(word, bit):
    # A flip of the wire becomes a sign and a sign a flip. Where there are both they come in the wrong order,
    # and to pass by each other puts them against nought.
    changed = (word[0] ^ word[1]) & bit
    s = word[2] + 2 * value_of(word[0] & word[1], bit)
    return (word[0] ^ changed, word[1] ^ changed, s % 4)


def turn_carried(word, bit, e):
    if word[0] & bit == 0:
        return word
    if e % 2 == 1:
        raise OddTurn("a turn of an odd e does not carry a word that flips its wire")
    # Carried by e = 2 a flip becomes one behind a sign, and s grows by 1; other even e are that again and again.
    z = word[1] ^ bit if e % 4 == 2 else word[1]
    return (word[0], z, (word[2] + e // 2) % 4)


def tie_carried(word, first, second):
    x = word[0] ^ second if word[0] & first != 0 else word[0]
    z = word[1] ^ first if word[1] & second != 0 else word[1]
    return (x, z, word[2])


def sign_carried(word, first, second):
    z = word[1]
    if word[0] & first != 0:
        z = z ^ second
    if word[0] & second != 0:
        z = z ^ first
    both = first | second
    s = word[2] + 2 if word[0] & both == both else word[2]
    return (word[0], z, s % 4)


def carried(wires, word, row):
    first = worth(wires, row[1])
    if row[0] == "swing":
        return swing_carried(word, first)
    if row[0] == "turn":
        return turn_carried(word, first, row[2])
    if row[0] == "flip":
        return (word[0], word[1], (word[2] + 2 * value_of(word[1], first)) % 4)
    second = worth(wires, row[2])
    if row[0] == "tie":
        return tie_carried(word, first, second)
    if row[0] == "sign":
        return sign_carried(word, first, second)
    return (exchanged(word[0], first | second), exchanged(word[1], first | second), word[2])
