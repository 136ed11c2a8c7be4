"""GRAPHs: pairs (nodes, outs) that tell what programs tell, each thing at one node."""

from brookworks.drafts import drawn
from brookworks.likeness import called_as_come_to, kinds_of, least_of
from brookworks.limits import MOST_NODES, MOST_OUTS
from brookworks.looks import stuck_in
from brookworks.noderuns import run_of
from brookworks.nodes import args_now, springs_in
from brookworks.nums import is_num, is_whole
from brookworks.programs import are_unlike, is_pair, is_period, is_row_of
from brookworks.terms import is_name

# Of each word what stands behind it, and how many args.
NODES = {
    "spring": ("name", 0),
    "fixed": ("number", 0),
    "sum": ("none", 2),
    "less": ("none", 2),
    "most": ("none", 2),
    "least": ("none", 2),
    "by": ("number", 1),
    "pick": ("none", 3),
    "late": ("number", 1),
    "half": ("none", 1),
    "twice": ("none", 1),
}


def is_what(kind, thing):
    if kind == "name":
        return is_name(thing)
    if kind == "number":
        return is_num(thing)
    return thing is None


def is_node_of(thing, many):
    """Whether a thing calls one of so many nodes."""
    return is_whole(thing) and 0 <= thing < many


def is_node(thing, many):
    """Whether a thing is a NODE beside so many, itself one of them."""
    if type(thing) is not tuple or len(thing) != 4:
        return False
    word, what, args, period = thing
    if type(word) is not str or word not in NODES or type(args) is not tuple:
        return False
    kind, wanted = NODES[word]
    if not is_what(kind, what) or len(args) != wanted or not is_period(period):
        return False
    return all([is_node_of(arg, many) for arg in args])


def is_out(thing, many):
    return is_pair(thing) and is_name(thing[0]) and is_node_of(thing[1], many)


def meets(node, nodes):
    """Whether a node's period meets those of its args."""
    word, what, args, period = node
    periods = [nodes[arg][3] for arg in args]
    if word == "half":
        return periods == [period // 2]
    if word == "twice":
        return periods == [period * 2]
    return all([other == period for other in periods])


def is_graph(thing):
    if not is_pair(thing) or not is_row_of(thing[0], MOST_NODES) or not is_row_of(thing[1], MOST_OUTS):
        return False
    nodes, outs = thing
    if not all([is_node(node, len(nodes)) for node in nodes]) or not all([is_out(out, len(nodes)) for out in outs]):
        return False
    if not are_unlike([name for name, node in outs]) or not all([meets(node, nodes) for node in nodes]):
        return False
    if not are_unlike([name for name, period in springs_in(thing)]):
        return False
    by_number = dict(enumerate(nodes))
    if stuck_in({at: args_now(node) for at, node in by_number.items()}):
        return False
    return len(called_as_come_to(by_number, [node for name, node in outs])) == len(nodes)


def graph_of(program):
    graph, _ = drawn(program)
    return graph


def alike_in(graph):
    kinds = kinds_of(dict(enumerate(graph[0])))
    many = len(graph[0])
    return [(one, other) for one in range(many) for other in range(one + 1, many) if kinds[one] == kinds[other]]


def least_graph(graph):
    least, _ = least_of(dict(enumerate(graph[0])), graph[1])
    return least


def graph_run(graph, given, beats):
    return run_of(graph, given, beats)
