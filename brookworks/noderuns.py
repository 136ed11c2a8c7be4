"""What a graph's nodes tell: exact numbers, or such as a device has whose boxes are wide enough."""

from brookworks.givens import check_given
from brookworks.nodes import nodes_in_turn, springs_in
from brookworks.nums import cut_of
from brookworks.worths import number_of


def number_at(node, at, given, within):
    """Number `at`, from 0, of a node, of the lists of numbers of its args."""
    word, what, _, _ = node
    return given[what][at] if word == "spring" else number_of(word, what, at, within)


def run_of(graph, given, beats, *, figures=None):
    """The dict from each out's NAME to the list of what it tells, cut where figures are told."""
    check_given(springs_in(graph), given, beats)
    nodes, outs = graph
    order = nodes_in_turn(graph)
    told = {node: [] for node in order}
    for beat in range(beats):
        for node in order:
            _, _, args, period = nodes[node]
            if beat % period == 0:
                number = number_at(nodes[node], beat // period, given, [told[arg] for arg in args])
                # What comes of numbers that are cut has no more figures, but where it's told to be cut, too.
                told[node].append(number if figures is None else cut_of(number, figures))
    return {name: list(told[node]) for name, node in outs}
