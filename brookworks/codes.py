"""CODEs: rows by which a device of few boxes tells what a graph tells."""

from brookworks.errors import TooFew
from brookworks.limits import MOST_BOXES
from brookworks.nodes import nodes_in_turn, round_in
from brookworks.rows import copies, settled, waiting_behind


def kept_of(graph):
    """The kept boxes: one for each late, and each twice, from 0 on."""
    keeping = [(at, node) for at, node in enumerate(graph[0]) if node[0] in ("late", "twice")]
    return tuple([(box, at, node[1]) for box, (at, node) in enumerate(keeping)])


class Beat:
    """One beat of a graph's round. A node's number that's worked out at it has, at first, a box of
    its own, called behind the kept ones."""

    def __init__(self, graph, kept, beat):
        self.nodes, self.outs = graph
        self.homes = {node: box for box, node, number in kept}
        self.own = len(kept)
        self.now = beat

    def tells(self, node):
        return self.now % self.nodes[node][3] == 0

    def tells_anew(self, node):
        """Whether it's a twice whose number isn't one that it told already."""
        word, _, _, period = self.nodes[node]
        return word == "twice" and self.now % (2 * period) == 0

    def box_with(self, node):
        """The box that holds the number that a node tells at this beat."""
        while self.nodes[node][0] == "half" or self.tells_anew(node):
            node = self.nodes[node][2][0]
        return self.homes[node] if node in self.homes else self.own + node

    def to_be_kept(self):
        """The dict from each kept box that's written at this beat to the node whose number it's to hold."""
        told = {}
        for node, box in self.homes.items():
            if self.tells_anew(node) or (self.nodes[node][0] == "late" and self.tells(node)):
                told[box] = self.nodes[node][2][0]
        return told

    def names_at(self, node):
        """The names of the outs that are given that node's number at this beat."""
        return [name for name, other in self.outs if other == node and self.tells(node)]

    def worked_out(self):
        """The dict from each box that's no kept one and is needed at this beat to True."""
        rest = [node for name, node in self.outs if self.tells(node)] + list(self.to_be_kept().values())
        found = {}
        while rest:
            box = self.box_with(rest.pop())
            if box >= self.own and box not in found:
                found[box] = True
                rest.extend(list(self.nodes[box - self.own][2]))
        return found

    def row_of(self, node):
        """The row that works out a node's number."""
        word, what, args, _ = self.nodes[node]
        box = self.own + node
        if word == "spring":
            return ("take", box, what)
        read = tuple([self.box_with(arg) for arg in args])
        if word == "fixed":
            return ("fix", box, what)
        return ("by", box, what) + read if word == "by" else (word, box) + read

    def rows(self, order):
        """The rows of this beat, nodes done in that order, each number in a box of its own."""
        needed = self.worked_out()
        rows = []
        for node in order:
            if self.own + node in needed:
                rows.append(self.row_of(node))
            elif self.nodes[node][0] == "spring" and self.tells(node):
                rows.append(("take", None, self.nodes[node][1]))
            rows.extend([("give", name, self.box_with(node)) for name in self.names_at(node)])
        moves = {box: self.box_with(node) for box, node in self.to_be_kept().items()}
        # Written last, as what they held till now may be read by any row ahead.
        return rows + copies(moves, self.own + len(self.nodes))


def work_of(code):
    _, kept, beats = code
    lasting = [box for box, node, number in kept]
    waiting = [boxes for rows in beats for boxes in waiting_behind(rows)]
    return max([0] + [len([box for box in boxes if box not in lasting]) for boxes in waiting])


def code_of(graph, *, boxes=MOST_BOXES):
    kept = kept_of(graph)
    order = nodes_in_turn(graph)
    beats = [settled(Beat(graph, kept, beat).rows(order), len(kept)) for beat in range(round_in(graph))]
    need = len(kept) + work_of((0, kept, tuple(beats)))
    if boxes < need:
        raise TooFew(need)
    return (need, kept, tuple(beats))
