"""How far off numbers may be, by [17] word by word and with Python's own fractions, number by number."""

from fractions import Fraction

from tests.devices import cut
from tests.oracle import worth


class Noise:
    """Off is a pair of a fraction and a dict from CUTs, each called by node and number, to how often."""

    def __init__(self, graph, figures, fine):
        self.nodes, self.outs = graph
        self.figures, self.fine = figures, fine
        self.spans = {}
        self.known = {}

    def off(self, node, at):
        if (node, at) not in self.known:
            self.known[node, at] = self.work_out(node, at)
        return self.known[node, at]

    def own(self, node, at, low, high):
        self.spans[node, at] = (low, high)
        return (Fraction(0), {(node, at): Fraction(1)})

    def added(self, one, other, times):
        cuts = {name: one[1].get(name, 0) + times * other[1].get(name, 0) for name in {**one[1], **other[1]}}
        return (one[0] + times * other[0], {name: often for name, often in cuts.items() if often})

    def work_out(self, node, at):
        word, what, args, _ = self.nodes[node]
        unit = Fraction(1, 2 ** self.figures)
        nothing = (Fraction(0), {})
        if word == "spring":
            if self.fine <= self.figures:
                return nothing
            return self.own(node, at, -(unit - Fraction(1, 2 ** self.fine)), Fraction(0))
        if word == "fixed" or word == "late" and at == 0:
            return (cut(worth(what), self.figures) - worth(what), {})
        if word == "late":
            return self.off(args[0], at - 1)
        if word == "half":
            return self.off(args[0], 2 * at)
        if word == "twice":
            return self.off(args[0], at // 2)
        if word == "by":
            told = self.added(nothing, self.off(args[0], at), worth(what))
            if what[1] > 1:
                own = self.own(node, at, -(unit - Fraction(1, 2 ** self.figures * what[1])), Fraction(0))
                told = self.added(own, told, 1)
            return told
        one, other = [self.off(arg, at) for arg in args[-2:]]
        if word in ("sum", "less"):
            return self.added(one, other, 1 if word == "sum" else -1)
        if one == other:
            return one
        ends = [self.span(one), self.span(other)]
        return self.own(node, at, min(low for low, _ in ends), max(high for _, high in ends))

    def span(self, off):
        ends = [[often * end for end in self.spans[name]] for name, often in off[1].items()]
        return (off[0] + sum(min(pair) for pair in ends), off[0] + sum(max(pair) for pair in ends))

    def unsure(self, beats):
        """The first pick whose t may be off; None of none."""
        for node, (word, _, args, period) in enumerate(self.nodes):
            if word == "pick":
                for at in range(-(-beats // period)):
                    if self.span(self.off(args[0], at)) != (0, 0):
                        return node
        return None

    def told(self, beats):
        return {
            name: [self.span(self.off(node, at)) for at in range(-(-beats // self.nodes[node][3]))]
            for name, node in self.outs
        }
