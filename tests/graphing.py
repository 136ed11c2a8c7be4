"""Of GRAPHs, maps and codes what [12] to [15] tell, word by word, in ways of the tests' own."""

import itertools
import random

from brookworks.graphs import graph_of, least_graph
from brookworks.looks import periods_of
from brookworks.programs import uses_of
from brookworks.terms import part_at

KEYWORDS = "fixed sum less by pick late half twice most least over spring brook out beat".split()


def is_whole(thing):
    return type(thing) is int


def is_name(thing):
    return type(thing) is str and 1 <= len(thing) <= 6 and thing not in KEYWORDS and set(thing) <= set("abcdefghijklmnopqrstuvwxyz")


def is_number(thing):
    if type(thing) is not tuple or len(thing) != 2 or not all(is_whole(one) for one in thing):
        return False
    number, parts = thing
    return parts in [2 ** power for power in range(200)] and (parts == 1 or number % 2 == 1)


def is_node(thing, many):
    if type(thing) is not tuple or len(thing) != 4:
        return False
    word, what, args, period = thing
    if not is_whole(period) or period not in (1, 2, 4, 8, 16) or type(word) is not str:
        return False
    if type(args) is not tuple or not all(is_whole(arg) and 0 <= arg < many for arg in args):
        return False
    if word == "spring":
        return is_name(what) and args == ()
    if word in ("fixed", "by", "late"):
        return is_number(what) and len(args) == (0 if word == "fixed" else 1)
    wanted = {"sum": 2, "less": 2, "most": 2, "least": 2, "pick": 3, "half": 1, "twice": 1}
    return what is None and word in wanted and len(args) == wanted[word]


def is_graph(thing):
    if type(thing) is not tuple or len(thing) != 2 or not all(type(row) is tuple for row in thing):
        return False
    nodes, outs = thing
    many = len(nodes)
    if not 1 <= many <= 100 or not 1 <= len(outs) <= 3 or not all(is_node(node, many) for node in nodes):
        return False
    for out in outs:
        if type(out) is not tuple or len(out) != 2 or not is_name(out[0]):
            return False
        if not is_whole(out[1]) or not 0 <= out[1] < many:
            return False
    if len({name for name, _ in outs}) < len(outs):
        return False
    springs = {}
    for word, what, args, period in nodes:
        if word == "spring" and springs.setdefault(what, period) != period:
            return False
        for arg in args:
            told = nodes[arg][3]
            if {"half": told * 2, "twice": told / 2}.get(word, told) != period:
                return False
    return not has_round(nodes) and come_to(nodes, outs) == set(range(many))


def come_to(nodes, outs):
    found, rest = set(), [node for _, node in outs]
    while rest:
        node = rest.pop()
        if node not in found:
            found.add(node)
            rest.extend(nodes[node][2])
    return found


def has_round(nodes):
    """Whether there's a round of args without a late."""
    state = {}

    def walk(node):
        if state.get(node) == "done":
            return False
        if state.get(node) == "under way":
            return True
        state[node] = "under way"
        found = nodes[node][0] != "late" and any(walk(arg) for arg in nodes[node][2])
        state[node] = "done"
        return found

    return any(walk(node) for node in range(len(nodes)))


def alike(graph):
    """All pairs that nothing tells apart: those are thrown out that something does, till none is."""
    nodes = graph[0]
    pairs = {
        (one, other) for one, other in itertools.product(range(len(nodes)), repeat=2)
        if nodes[one][:2] == nodes[other][:2] and nodes[one][3] == nodes[other][3]
    }
    while True:
        left = {(one, other) for one, other in pairs if all(pair in pairs for pair in zip(nodes[one][2], nodes[other][2]))}
        if left == pairs:
            return sorted((one, other) for one, other in pairs if one < other)
        pairs = left


def is_called_as_told(graph):
    """Whether its nodes are called as they are first come to."""
    nodes, outs = graph
    order = []

    def walk(node):
        if node not in order:
            order.append(node)
            for arg in nodes[node][2]:
                walk(arg)

    for _, node in outs:
        walk(node)
    return order == list(range(len(nodes)))


def called_anew(graph, order):
    """The same graph, its nodes called by their places in that order."""
    nodes, outs = graph
    names = {node: at for at, node in enumerate(order)}
    rows = [(word, what, tuple(names[arg] for arg in args), period) for word, what, args, period in (nodes[node] for node in order)]
    return (tuple(rows), tuple((name, names[node]) for name, node in outs))


def with_nodes_twice(graph, dice, most=3):
    """A graph that tells the same, nodes standing up to so often, called in any order."""
    nodes, outs = graph
    copies = {node: [(node, at) for at in range(dice.randint(1, most))] for node in range(len(nodes))}
    made = {}
    for node, row in enumerate(nodes):
        for copy in copies[node]:
            made[copy] = (row[0], row[1], tuple(dice.choice(copies[arg]) for arg in row[2]), row[3])
    firsts = [(name, dice.choice(copies[node])) for name, node in outs]
    found, rest = [], [node for _, node in firsts]
    while rest:
        node = rest.pop()
        if node not in found:
            found.append(node)
            rest.extend(made[node][2])
    order = dice.sample(found, len(found))
    names = {node: at for at, node in enumerate(order)}
    rows = [(word, what, tuple(names[arg] for arg in args), period) for word, what, args, period in (made[node] for node in order)]
    return (tuple(rows), tuple((name, names[node]) for name, node in firsts))


def brooks_come_to(program):
    names = [name for name, _ in program[1]]
    found, rest = set(), list(program[2])
    while rest:
        name = rest.pop()
        if name in names and name not in found:
            found.add(name)
            rest.extend(uses_of(program, name))
    return [name for name in names if name in found]


def is_map(program, graph, thing):
    """By [13] word by word, of a program that can be looked at and a GRAPH."""
    nodes, outs = graph
    brooks = dict(program[1])
    periods = [(place, period) for place, period in periods_of(program) if place[0] in brooks_come_to(program)]
    if type(thing) is not list or len(thing) != len(periods):
        return False
    for pair, (place, _) in zip(thing, periods):
        if type(pair) is not tuple or len(pair) != 2 or repr(pair[0]) != repr(place):
            return False
        if not is_whole(pair[1]) or not 0 <= pair[1] < len(nodes):
            return False
    node_at = {place: node for place, node in thing}
    for (name, path), period in periods:
        part = part_at(brooks[name], path)
        node = nodes[node_at[(name, path)]]
        within = [node_at[(name, path + (at,))] for at in range(3) if (name, path + (at,)) in node_at]
        word = part[0]
        if word == "name" and part[1] in brooks:
            so = node_at[(name, path)] == node_at[(part[1], ())]
        elif word == "name":
            so = node == ("spring", part[1], (), period)
        elif word in ("most", "least", "over"):
            so = is_window(nodes, node, {"over": "sum"}.get(word, word), part[1], part[2], within[0], period)
        else:
            so = node == (word, part[1] if word in ("fixed", "by", "late") else None, tuple(within), period)
        if not so:
            return False
    return outs == tuple((out, node_at[(out, ())]) for out in program[2])


def is_window(nodes, node, word, long, number, first, period):
    if node[0] != word or node[1] is not None or node[3] != period:
        return False
    other = node[2][1]
    for _ in range(long - 1):
        if nodes[other][:2] != ("late", number) or nodes[other][3] != period:
            return False
        other = nodes[other][2][0]
    if other != first:
        return False
    if long == 2:
        return node[2][0] == first
    return is_window(nodes, nodes[node[2][0]], word, long - 1, number, first, period)


class Held:
    """Numbers of nodes (node, at), of one round: at from 0; of those that are the same one stands."""

    def __init__(self, graph, long):
        self.nodes = graph[0]
        self.long = long

    def first(self, node, at):
        """Where a late's number is held, but the round's first, a half's, a twice's."""
        while True:
            word, _, args, _ = self.nodes[node]
            if word == "late" and at > 0:
                node, at = args[0], at - 1
            elif word == "half":
                node, at = args[0], 2 * at
            elif word == "twice":
                node, at = args[0], at // 2
            else:
                return (node, at)

    def beats(self, node):
        return range(0, self.long, self.nodes[node][3])


def code_faults(graph, code):
    """What's wrong with a code, by a look at one round as [14] and [15] tell."""
    nodes, outs = graph
    long = max(node[3] for node in nodes)
    boxes, kept, beats = code
    held = Held(graph, long)
    faults = []
    if [list(row[1:]) for row in kept] != [[at, node[1]] for at, node in enumerate(nodes) if node[0] in ("late", "twice")]:
        if sorted(row[1] for row in kept) != [at for at, node in enumerate(nodes) if node[0] in ("late", "twice")]:
            faults.append("kept: not one for each late and twice")
        faults.extend("kept: N" for _, node, number in kept if nodes[node][1] != number)
    if list(kept) != sorted(kept) or len({row[0] for row in kept}) < len(kept):
        faults.append("kept: does not rise")
    if len(beats) != long or type(beats) is not tuple or not all(type(rows) is tuple for rows in beats):
        faults.append("beats: too few or too many")
    holds = {box: {held.first(node, 0)} for box, node, _ in kept if nodes[node][0] == "late"}
    taken, given = [], []
    for beat, rows in enumerate(beats):
        now = [(at, node, beat // node[3]) for at, node in enumerate(nodes) if beat % node[3] == 0]
        for row in rows:
            word = row[0]
            if word == "give":
                node = dict(outs).get(row[1])
                if node is None or beat % nodes[node][3]:
                    faults.append(("no out now", beat, row))
                elif held.first(node, beat // nodes[node][3]) not in holds.get(row[2], ()):
                    faults.append(("given another one", beat, row))
                given.append((row[1], beat))
                continue
            box = row[1]
            if box is None and word != "take" or box is not None and not 0 <= box < boxes:
                faults.append(("no box", beat, row))
            if word == "take":
                come = {held.first(at, number) for at, node, number in now if node[:2] == ("spring", row[2])}
                taken.append((row[2], beat))
            elif word == "fix":
                come = {held.first(at, number) for at, node, number in now if node[:2] == ("fixed", row[2])}
            elif word == "copy":
                come = holds.get(row[2], set())
            else:
                what, read = (row[2], row[3:]) if word == "by" else (None, row[2:])
                come = {
                    held.first(at, number) for at, node, number in now
                    if node[:2] == (word, what) and len(node[2]) == len(read) and all(
                        held.first(arg, number) in holds.get(one, ()) for arg, one in zip(node[2], read))
                }
            if not come:
                faults.append(("nothing comes", beat, row))
            if box is not None:
                holds[box] = set(come)
    for box, node, _ in kept:
        if nodes[node][0] == "late" and held.first(node, long // nodes[node][3]) not in holds[box]:
            faults.append(("not kept", node))
    springs = sorted((node[1], beat) for at, node in enumerate(nodes) if node[0] == "spring" for beat in held.beats(at))
    if sorted(taken) != springs:
        faults.append("taken or dropped too often, or not")
    if sorted(given) != sorted((name, beat) for name, node in outs for beat in held.beats(node)):
        faults.append("given too often, or not")
    return faults


def is_code(graph, thing):
    """Whether a thing is a CODE of the graph by its form alone, by [14] word by word."""
    nodes = graph[0]

    def is_box(box):
        return is_whole(box) and 0 <= box < thing[0]

    def is_row(row):
        if type(row) is not tuple or row == () or type(row[0]) is not str:
            return False
        word, *rest = row
        if word == "take":
            return len(rest) == 2 and (rest[0] is None or is_box(rest[0])) and type(rest[1]) is str
        if word == "fix":
            return len(rest) == 2 and is_box(rest[0]) and is_number(rest[1])
        if word == "by":
            return len(rest) == 3 and is_box(rest[0]) and is_number(rest[1]) and is_box(rest[2])
        if word == "give":
            return len(rest) == 2 and type(rest[0]) is str and is_box(rest[1])
        many = {"sum": 3, "less": 3, "most": 3, "least": 3, "pick": 4, "copy": 2}
        return word in many and len(rest) == many[word] and all(is_box(box) for box in rest)

    if type(thing) is not tuple or len(thing) != 3 or not is_whole(thing[0]) or thing[0] > 10 ** 6:
        return False
    if type(thing[1]) is not tuple or type(thing[2]) is not tuple:
        return False
    for row in thing[1]:
        if type(row) is not tuple or len(row) != 3 or not is_box(row[0]) or not is_whole(row[1]):
            return False
        if row[1] not in range(len(nodes)) or repr(row[2]) != repr(nodes[row[1]][1]):
            return False
    return all(type(rows) is tuple and all(is_row(row) for row in rows) for rows in thing[2])


def is_right_code(graph, thing):
    return is_code(graph, thing) and code_faults(graph, thing) == []


def work_awaited(code):
    """By [14] word by word: behind each row look at each box what comes of it."""
    _, kept, beats = code
    most = 0
    for rows in beats:
        for at in range(len(rows)):
            waiting = 0
            for box in range(code[0]):
                if box in [row[0] for row in kept] or box not in [written(row) for row in rows[:at + 1]]:
                    continue
                for row in rows[at + 1:]:
                    if box in read_by(row):
                        waiting += 1
                        break
                    if box == written(row):
                        break
            most = max(most, waiting)
    return most


def written(row):
    return None if row[0] == "give" else row[1]


def read_by(row):
    return {"take": (), "fix": (), "by": row[3:], "give": row[2:]}.get(row[0], row[2:])


def some_graphs(seed, programs):
    """Of each program its graph, called in any order: no two nodes of one are alike."""
    dice = random.Random(seed)
    for program in programs:
        graph = graph_of(program)
        yield called_anew(graph, dice.sample(range(len(graph[0])), len(graph[0])))


def flat_graph(term):
    """The least graph of a TERM without names of brooks, windows, halves, twices: all of period 1."""
    nodes = []

    def add(part):
        inner = [one for one in part[1:] if isinstance(one, tuple) and isinstance(one[0], str)]
        args = tuple(add(one) for one in inner)
        what = part[1] if part[0] in ("name", "fixed", "by", "late") else None
        nodes.append(("spring" if part[0] == "name" else part[0], what, args, 1))
        return len(nodes) - 1

    root = add(term)
    return least_graph((tuple(nodes), (("a", root),)))


def some_tangled_graphs(seed, many):
    """Least graphs of one period in which lates lead anywhere: with many rounds, more than programs have."""
    dice = random.Random(seed)
    for _ in range(many):
        count = dice.randint(2, 14)
        period = dice.choice([1, 1, 2])
        nodes = []
        for at in range(count):
            word = "spring" if at == count - 1 else dice.choice(
                ["late", "late", "by", "sum", "less", "most", "least", "pick", "fixed", "spring"])
            number = dice.choice([(1, 1), (0, 1), (-2, 1), (1, 2), (-3, 2), (3, 4), (5, 16)])
            what = dice.choice("xyz") if word == "spring" else number if word in ("late", "by", "fixed") else None
            wanted = {"sum": 2, "less": 2, "most": 2, "least": 2, "pick": 3, "by": 1, "late": 1}.get(word, 0)
            args = [dice.randrange(0 if word == "late" else at + 1, count) for _ in range(wanted)]
            nodes.append((word, what, tuple(args), period))
        outs = (("a", 0), ("b", dice.randrange(count)))[:dice.randint(1, 2)]
        yield least_graph(called_anew((nodes, outs), sorted(come_to(nodes, outs))))
