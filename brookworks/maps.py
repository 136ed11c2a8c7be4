"""Maps from a program's PLACEs to a graph's nodes, that show that it tells the same."""

from brookworks.drafts import JOINTS, drawn
from brookworks.errors import Clash, Loose, Round, TooFar
from brookworks.looks import periods_of
from brookworks.nums import is_whole
from brookworks.programs import come_to, is_pair, spring_names, term_of
from brookworks.terms import WINDOWS, inner_of, number_in, part_at
from brookworks.things import are_same


def map_of(program):
    _, pairs = drawn(program)
    return pairs


def is_map(places, many, thing):
    """Whether a thing is a list of pairs of just these PLACEs, in order, and one of so many nodes each."""
    if type(thing) is not list or not all([is_pair(pair) for pair in thing]):
        return False
    if not are_same([pair[0] for pair in thing], places):
        return False
    return all([is_whole(pair[1]) and 0 <= pair[1] < many for pair in thing])


def is_late_of(nodes, node, times, number, first, period):
    """Whether a node is so many times late, by that number, of the node first."""
    for _ in range(times):
        word, what, args, told = nodes[node]
        if (word, what, told) != ("late", number, period):
            return False
        node = args[0]
    return node == first


def is_window_of(nodes, node, part, first, period):
    """Whether a node is the last one of those that are put together for that window of the node first."""
    for times in range(part[1] - 1, 0, -1):
        word, what, args, told = nodes[node]
        if (word, what, told) != (JOINTS[part[0]], None, period):
            return False
        if not is_late_of(nodes, args[1], times, number_in(part), first, period):
            return False
        node = args[0]
    return node == first


def is_at(program, nodes, homes, place, period):
    """Whether what stands at that PLACE is at its node, homes being the dict from PLACEs to nodes."""
    name, path = place
    part = part_at(term_of(program, name), path)
    node = homes[place]
    if part[0] == "name":
        if part[1] in spring_names(program):
            return nodes[node] == ("spring", part[1], (), period)
        return node == homes[(part[1], ())]
    inner = [homes[(name, path + (at,))] for at in range(len(inner_of(part)))]
    if part[0] in WINDOWS:
        return is_window_of(nodes, node, part, inner[0], period)
    return nodes[node] == (part[0], number_in(part), tuple(inner), period)


def shows_map(program, graph, thing):
    try:
        periods = periods_of(program)
    except (Round, Clash, Loose, TooFar):
        return False
    brooks = come_to(program, program[2])
    shown = [(place, period) for place, period in periods if place[0] in brooks]
    nodes, outs = graph
    if not is_map([place for place, period in shown], len(nodes), thing):
        return False
    homes = dict(thing)
    if not all([is_at(program, nodes, homes, place, period) for place, period in shown]):
        return False
    return outs == tuple([(out, homes[(out, ())]) for out in program[2]])
