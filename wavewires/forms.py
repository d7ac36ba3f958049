"""Forms: turns and sums without hidden bits brought into the one form that all their likes have."""

from wavewires.away import has, shorter, worn
from wavewires.circuits import is_plain
from wavewires.errors import HasLooks, StillHidden, UnlikeWires
from wavewires.sums import sum_of
from wavewires.tables import cleared, greatest, refuse_odd


def having(turns, bit):
    return [pair for pair in turns if has(pair[0], bit)]


def sum_of_turns(turns):
    return sum([pair[1] for pair in turns])


def oddly_held(turns):
    # Four times an e counts by eights only where the e is odd, so of threes it is enough
    # which bits are in an odd number of the sets with odd e.
    told = 0
    for pair in turns:
        if pair[1] % 2 == 1:
            told = told ^ pair[0]
    return told


def form_with(bit, turns, bits):
    # The pairs whose least bit is the one told; bits are those behind it.
    form = [((bit,), sum_of_turns(turns) % 8)]
    for k in range(len(bits)):
        both = having(turns, bits[k])
        form.append(((bit, bits[k]), -2 * sum_of_turns(both) % 8))
        held = oddly_held(both)
        form.extend([((bit, bits[k], third), 4) for third in bits[k + 1:] if has(held, third)])
    return [pair for pair in form if pair[1] != 0]


def form_of(turns):
    held = 0
    for pair in turns:
        held = held | pair[0]
    bits = [bit for bit in range(held.bit_length()) if has(held, bit)]
    form = []
    for k in range(len(bits)):
        form.extend(form_with(bits[k], having(turns, bits[k]), bits[k + 1:]))
    return tuple(form)


def settled_sum(one):
    if one[5] != ():
        raise StillHidden("a bit is hidden")
    ties = sorted(cleared(one[4], lambda tie: tie, lambda tie, other: tie ^ other))
    if 1 in ties:
        # The tie of bit 0 alone never has the value 0.
        return None
    for tie in ties:
        one = shorter(one, greatest(tie), tie)
    return (one[0], one[1], one[2], form_of(one[3]), tuple(ties))


def refuse_apart(one, other):
    if not is_plain(one) or not is_plain(other):
        raise HasLooks("circuits with looks are not asked whether they are alike")
    if one[0] != other[0]:
        raise UnlikeWires("the circuits have unlike numbers of wires")


def turn_between(one, other):
    refuse_apart(one, other)
    refuse_odd(one[1] + other[1])
    first = settled_sum(worn(sum_of(one))[1])
    second = settled_sum(worn(sum_of(other))[1])
    if first[:2] + first[3:] != second[:2] + second[3:]:
        return None
    return (second[2] - first[2]) % 8
