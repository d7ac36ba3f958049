"""Tables: for each wire a pair (helper, keeper) of words; the keepers leave the states of the table as they are."""

from wavewires.away import has
from wavewires.errors import Barred, NoPaper, OddTurn
from wavewires.states import bits_of, worth
from wavewires.words import agree, carried, word_times


def table_of(wires, place=0):
    bits = bits_of(wires, place)
    flips = [worth(wires, wire) for wire in range(wires)]
    return tuple([((flips[wire], 0, 0), (0, flips[wire], 2 * bits[wire])) for wire in range(wires)])


def refuse_odd(rows):
    if any([row[0] == "turn" and row[2] % 2 == 1 for row in rows]):
        raise OddTurn("tables have no turn of an odd e")


def table_done(table, row):
    # An odd turn would carry words that don't flip its wire: asked for ahead, it is refused there too.
    refuse_odd((row,))
    wires = len(table)
    return tuple([(carried(wires, pair[0], row), carried(wires, pair[1], row)) for pair in table])


def look_word(table, wire, mark):
    return (0, worth(len(table), wire), 2 * mark)


def against_look(table, word):
    return [wire for wire in range(len(table)) if not agree(table[wire][1], word)]


def keepers_for(table, word):
    # Each helper stands against the one keeper beside it: against a product of keepers it stands
    # just where that one is among them.
    return [wire for wire in range(len(table)) if not agree(table[wire][0], word)]


def look_told(table, wire):
    word = look_word(table, wire, 0)
    if against_look(table, word) != []:
        return None
    product = (0, 0, 0)
    for other in keepers_for(table, word):
        product = word_times(product, table[other][1])
    return 0 if product == word else 1


def sure_of(table, wire):
    if look_told(table, wire) is None:
        raise NoPaper("the look is open")
    return keepers_for(table, look_word(table, wire, 0))


def agreeing(word, look, keeper):
    # Neither word nor keeper alone agrees with the look, both together do.
    return word if agree(word, look) else word_times(word, keeper)


def opened(table, wire, look):
    # One keeper that stands against the look gives way to it. It helps the look from then on,
    # and brings whatever else stands against the look to agree with it.
    keeper = table[wire][1]
    told = [(agreeing(pair[0], look, keeper), agreeing(pair[1], look, keeper)) for pair in table]
    told[wire] = (keeper, look)
    return tuple(told)


def table_looked(table, wire, mark):
    told = look_told(table, wire)
    look = look_word(table, wire, mark)
    if told is None:
        return opened(table, against_look(table, look)[0], look)
    if told != mark:
        raise Barred("the look is sure of the other mark")
    return table


def greatest(bitset):
    return bitset.bit_length() - 1


def cleared(things, bits_in, product):
    # Made of products, things with the same products, the greatest bit of each one in no other;
    # what comes to no bits is left out.
    told = []
    for thing in things:
        for other in told:
            if has(bits_in(thing), greatest(bits_in(other))):
                thing = product(thing, other)
        if bits_in(thing) != 0:
            top = greatest(bits_in(thing))
            told = [product(other, thing) if has(bits_in(other), top) else other for other in told]
            told.append(thing)
    return told


def settled(table):
    wires = len(table)
    keepers = cleared([pair[1] for pair in table], lambda word: (word[0] << wires) | word[1], word_times)
    # No two have the same x and z, so that s does not count for the order.
    return tuple(sorted(keepers, reverse=True))
