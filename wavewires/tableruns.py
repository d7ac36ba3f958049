"""Runs by tables: as the runs by states, for circuits without odd turns."""

from wavewires.runs import gone_through
from wavewires.tables import look_told, refuse_odd, table_done, table_looked, table_of


def table_parted(branch, wire):
    sure = look_told(branch[1], wire)
    if sure is not None:
        return [(branch[0] + (sure,), branch[1], branch[2])]
    return [(branch[0] + (mark,), table_looked(branch[1], wire, mark), branch[2] + 1) for mark in (0, 1)]


def table_gone_on(branch, row):
    return (branch[0], table_done(branch[1], row), branch[2])


def table_branches(circuit, place=0):
    refuse_odd(circuit[1])
    return gone_through(circuit[1], ((), table_of(circuit[0], place), 0), table_parted, table_gone_on)
