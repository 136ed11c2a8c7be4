"""How late a spring's number is told: ways from outs to springs, by args."""

from brookworks.errors import NoOut, TooMany
from brookworks.graphs import graph_run, is_node_of
from brookworks.limits import MOST_WAYS
from brookworks.nums import is_whole
from brookworks.programs import is_pair


def node_of(graph, out):
    for name, node in graph[1]:
        if name == out:
            return node
    raise NoOut(out)


def late_at(graph, node):
    """By how many beats what a node tells is later than its arg."""
    word, _, _, period = graph[0][node]
    return period if word == "late" else 0


def late_by(graph, way):
    return sum([late_at(graph, node) for node in way])


def ends_of(graph, name):
    """The nodes at which a way to that spring ends."""
    return [at for at, node in enumerate(graph[0]) if node[0] == "spring" and node[1] == name]


def least_way(graph, name, out):
    first = node_of(graph, out)
    ways = {first: (late_at(graph, first), [first])}
    rest = [first]
    while rest:
        node = rest.pop(0)
        beats, way = ways[node]
        for arg in graph[0][node][2]:
            told = beats + late_at(graph, arg)
            if arg not in ways or told < ways[arg][0]:
                ways[arg] = (told, way + [arg])
                rest.append(arg)
    best = None
    for end in ends_of(graph, name):
        if end in ways and (best is None or ways[end][0] < best[0]):
            best = ways[end]
    return best


def is_way(graph, name, first, thing):
    """Whether a thing is the list of nodes of a way from the node first to that spring."""
    nodes = graph[0]
    if type(thing) is not list or thing == [] or not all([is_node_of(node, len(nodes)) for node in thing]):
        return False
    if thing[0] != first or thing[-1] not in ends_of(graph, name):
        return False
    return all([arg in nodes[node][2] for node, arg in zip(thing, thing[1:])])


def shows_way(graph, name, out, thing):
    first = node_of(graph, out)
    if not is_pair(thing) or not is_whole(thing[0]) or not is_way(graph, name, first, thing[1]):
        return False
    return thing[0] == late_by(graph, thing[1])


def users_of(graph):
    """The dict from each node to the list of the nodes whose arg it is."""
    users = {at: [] for at in range(len(graph[0]))}
    for at, node in enumerate(graph[0]):
        for arg in node[2]:
            users[arg].append(at)
    return users


def leading(users, ends, way):
    """The dict to True from each node from which a way leads to one of these ends, past no node of the
    way, which doesn't come to them."""
    found = {}
    rest = list(ends)
    while rest:
        node = rest.pop()
        if node not in found:
            found[node] = True
            rest.extend([user for user in users[node] if user not in way])
    return found


def lates_of(graph, name, out):
    rest = [[node_of(graph, out)]]
    ends = ends_of(graph, name)
    users = users_of(graph)
    told = []
    while rest:
        way = rest.pop()
        if way[-1] in ends:
            told.append(late_by(graph, way))
            if len(told) > MOST_WAYS:
                raise TooMany(MOST_WAYS)
        else:
            # Only such ways are gone on with as come to an end, lest others be without number.
            onward = leading(users, ends, way)
            rest.extend([way + [arg] for arg in sorted(set(graph[0][way[-1]][2])) if arg in onward])
    return sorted(set(told))


def first_unlike(one, other):
    """The first place at which two lists of like length are unlike; None where they're the same."""
    for at, (this, that) in enumerate(zip(one, other)):
        if this != that:
            return at
    return None


def felt_by(graph, given, name, number, other, beats):
    told = graph_run(graph, given, beats)
    changed = {spring: given[spring] for spring in given}
    changed[name] = given[name][:number] + [other] + given[name][number + 1:]
    again = graph_run(graph, changed, beats)
    felt = []
    for out, node in graph[1]:
        at = first_unlike(told[out], again[out])
        if at is not None:
            felt.append((out, at * graph[0][node][3]))
    return felt
