"""Programs run by their text."""

from brookworks.tables import Table
from brookworks.turns import order_of, turns_of


def plain_run(program, given, beats):
    table = Table(program, given, beats)
    turns = turns_of(program, order_of(program))
    for beat in range(beats):
        table.fill(turns, beat)
    return table.told()
