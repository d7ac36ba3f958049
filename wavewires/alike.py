"""Two plain circuits alike or not, told with a paper that can be judged; and the round of a circuit."""

from wavewires.forms import refuse_apart
from wavewires.ring import NOUGHT, times, turned
from wavewires.states import all_done, column

FEW_BITS = 16


def columns_apart(circuit, apart):
    # All columns in one state: the numbers of the one at place b are multiplied by 2**(apart * b).
    begun = tuple([(1 << (apart * b), 0, 0, 0, 0) for b in range(1 << circuit[0])])
    return all_done(begun, circuit[1])


def turn_to(one, other):
    for e in range(8):
        if tuple([turned(x, e) for x in one]) == other:
            return e
    return None


def turn_apart(one, other):
    # The whole of a column is one: written over r**swings, the squares of all its parts come to 2**swings,
    # so no part is beyond r**swings, and none of the difference of two columns is as great as 2**apart.
    # So far apart no column makes up for another one: the circuits are alike just where these states are.
    swings = max([len([row for row in rows if row[0] == "swing"]) for rows in (one[1], other[1])])
    apart = swings // 2 + 2
    return turn_to(columns_apart(one, apart), columns_apart(other, apart))


def unlike_paper(one, other):
    # Only asked of circuits that are not alike: if no number stood apart from one that is not nought,
    # all would be those of the other circuit times one number, and that could only be a turn.
    f = column(one, 0)
    g = column(other, 0)
    base = [p for p in range(len(f)) if f[p] != NOUGHT][0]
    for b in range(len(f)):
        first = column(one, b)
        second = column(other, b)
        for p in range(len(f)):
            if times(f[base], second[p]) != times(first[p], g[base]):
                return ("unlike", 0, base, b, p)


def alike_paper(one, other):
    refuse_apart(one, other)
    e = turn_apart(one, other)
    if e is not None:
        return ("alike", e)
    return unlike_paper(one, other)


def is_apart(one, other, paper):
    # f and g hold the numbers of both circuits at the paper's two pairs of places.
    f = [column(one, paper[k])[paper[k + 1]] for k in (1, 3)]
    g = [column(other, paper[k])[paper[k + 1]] for k in (1, 3)]
    return times(f[0], g[1]) != times(f[1], g[0])


def paper_stands(one, other, paper):
    refuse_apart(one, other)
    if paper[0] == "alike":
        return turn_apart(one, other) == paper[1]
    places = 1 << one[0]
    return all([0 <= place < places for place in paper[1:]]) and is_apart(one, other, paper)


def round_of(circuit, most):
    nothing = (circuit[0], ())
    refuse_apart(circuit, nothing)
    begun = columns_apart(nothing, FEW_BITS)
    state = begun
    for count in range(1, most + 1):
        state = all_done(state, circuit[1])
        # So few bits apart columns might make up for each other, but unlike states tell enough:
        # only where they are alike it is worth the time to put all columns far enough apart.
        if turn_to(begun, state) is not None and turn_apart((circuit[0], circuit[1] * count), nothing) is not None:
            return count
    return None
