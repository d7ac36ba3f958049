"""Bits summed away: steps that make a sum into a shorter one with the same numbers."""

from wavewires.errors import NoStep
from wavewires.sums import all_added, ties_in_order


def has(bitset, bit):
    return (bitset >> bit) & 1 == 1


def goes_away(one, bit):
    if any([has(tie, bit) for tie in one[4]]):
        return False
    return all([pair[1] % 2 == 0 for pair in one[3] if has(pair[0], bit)])


def steps_of(one):
    steps = [("away", bit) for bit in one[5] if goes_away(one, bit)]
    for tie in one[4]:
        steps.extend([("put", tie, bit) for bit in one[5] if has(tie, bit)])
    return steps


def fits(one, step):
    # Whether the bit is a hidden one is asked first: sets can't be asked for a bit below nought.
    if step[0] == "away":
        return step[1] in one[5] and goes_away(one, step[1])
    return step[1] in one[4] and step[2] in one[5] and has(step[1], step[2])


def shorter(one, bit, change):
    # Each turn whose set has the bit is added anew, at the set changed by `change`, which has the bit too.
    within = [(pair[0] ^ change, pair[1]) for pair in one[3] if has(pair[0], bit)]
    others = [pair for pair in one[3] if not has(pair[0], bit)]
    both = all_added(one[2], others, within)
    return (one[0], one[1], both[0], both[1], one[4], tuple([other for other in one[5] if other != bit]))


def odd_part(pairs):
    # What is in an odd number of the sets whose e is 2 or 6.
    told = 0
    for pair in pairs:
        if pair[1] in (2, 6):
            told = told ^ pair[0]
    return told


def gone_away(one, bit):
    within = [(pair[0] ^ (1 << bit), pair[1]) for pair in one[3] if has(pair[0], bit)]
    total = sum([pair[1] for pair in within]) % 8
    rest = odd_part(within)
    left = shorter(one, bit, 1 << bit)
    if total % 4 == 0:
        tie = rest ^ (total // 4)
        return (left[0], left[1] - 2, left[2], left[3], ties_in_order(left[4] + (tie,)), left[5])
    # total is 2 or 6: (1 + w**total) is r times w to a half of total, by the shorter way round.
    both = all_added(left[2] + (1 if total == 2 else 7), left[3], [(rest, 8 - total)])
    return (left[0], left[1] - 1, both[0], both[1], left[4], left[5])


def put(one, tie, bit):
    left = shorter(one, bit, tie)
    ties = [other ^ tie if has(other, bit) else other for other in left[4] if other != tie]
    return (left[0], left[1], left[2], left[3], ties_in_order(ties), left[5])


def stepped(one, step):
    if not fits(one, step):
        raise NoStep("the step does not fit the sum")
    if step[0] == "away":
        return gone_away(one, step[1])
    return put(one, step[1], step[2])


def led_on(thing, steps_for, behind_step):
    # Each step makes the thing shorter, so there is an end.
    chain = []
    steps = steps_for(thing)
    while steps != []:
        chain.append(steps[0])
        thing = behind_step(thing, steps[0])
        steps = steps_for(thing)
    return (chain, thing)


def leads_to(thing, steps, last, behind_step):
    for step in steps:
        try:
            thing = behind_step(thing, step)
        except NoStep:
            return False
    return thing == last


def worn(one):
    return led_on(one, steps_of, stepped)


def chain_stands(one, steps, last):
    return leads_to(one, steps, last, stepped)
