"""How far off a device's numbers may be, and how far they are."""

from brookworks.errors import Unsure
from brookworks.givens import many_below
from brookworks.limits import FIGURES, FINE
from brookworks.noderuns import run_of
from brookworks.nodes import nodes_in_turn, springs_in
from brookworks.nums import is_below, less_of
from brookworks.offs import Offs
from brookworks.worths import ZERO


def check_sure(offs):
    """Refused with Unsure where what a pick goes by may be off."""
    for at, (word, _, args, _) in enumerate(offs.nodes):
        if word == "pick" and not all([offs.span_of(off) == (ZERO, ZERO) for off in offs.lists[args[0]]]):
            raise Unsure(at)


def noise_of(graph, beats, *, figures=FIGURES, fine=FINE):
    offs = Offs(graph, figures, fine)
    order = nodes_in_turn(graph)
    for beat in range(beats):
        offs.fill(order, beat)
    check_sure(offs)
    return {name: [offs.span_of(off) for off in offs.lists[node]] for name, node in graph[1]}


def off_by(graph, given, beats, *, figures=FIGURES):
    exact = run_of(graph, given, beats)
    cut = run_of(graph, given, beats, figures=figures)
    return {name: [less_of(one, other) for one, other in zip(cut[name], exact[name])] for name in exact}


def rows_of(numbers, many):
    """The list of all tuples of so many of these numbers, the last one turning first."""
    rows = [()]
    for _ in range(many):
        rows = [row + (number,) for row in rows for number in numbers]
    return rows


def given_by(row, counts):
    """The GIVEN in which a row's numbers stand one behind the other, counts being pairs (NAME, how many)."""
    given = {}
    first = 0
    for name, many in counts:
        given[name] = list(row[first:first + many])
        first += many
    return given


def worst_of(graph, numbers, beats, *, figures=FIGURES):
    counts = [(name, many_below(period, beats)) for name, period in springs_in(graph)]
    least = {}
    most = {}
    for row in rows_of(numbers, sum([many for name, many in counts])):
        told = off_by(graph, given_by(row, counts), beats, figures=figures)
        for name, offs in told.items():
            off = offs[-1]
            if name not in least or is_below(off, least[name][0]):
                least[name] = (off, row)
            if name not in most or is_below(most[name][0], off):
                most[name] = (off, row)
    worst = {}
    for name, (off, row) in least.items():
        other, last = most[name]
        worst[name] = (off, other, given_by(row, counts), given_by(last, counts))
    return worst
