"""By how much numbers are off: pairs of a NUMBER, and a dict from CUTs to how often each is in it, never
nought times. A CUT is called by its place among those that were made."""

from brookworks.nums import cut_of, figures_of, least_num, less_of, most_num, sum_of, times_of
from brookworks.worths import ZERO

ONE = (1, 1)
MINUS_ONE = (-1, 1)


def with_times(one, other, times):
    """One, and the other so many times."""
    if times == ZERO:
        return one
    cuts = {cut: one[1][cut] for cut in one[1]}
    for cut, often in other[1].items():
        told = sum_of(cuts.get(cut, ZERO), times_of(often, times))
        if told == ZERO:
            del cuts[cut]
        else:
            cuts[cut] = told
    return (sum_of(one[0], times_of(other[0], times)), cuts)


class Offs:
    """By how much each number of a graph's nodes is off, worked out beat by beat."""

    def __init__(self, graph, figures, fine):
        self.nodes = graph[0]
        self.figures = figures
        self.fine = fine
        # Of each CUT the pair (low, high).
        self.spans = []
        self.lists = {at: [] for at in range(len(self.nodes))}

    def span_of(self, off):
        """The pair of the least and the greatest it can be, each CUT being anywhere by itself."""
        low, high = off[0], off[0]
        for cut, often in off[1].items():
            ends = [times_of(often, end) for end in self.spans[cut]]
            low = sum_of(low, least_num(ends))
            high = sum_of(high, most_num(ends))
        return (low, high)

    def cut_within(self, low, high):
        """A CUT of its own."""
        self.spans.append((low, high))
        return (ZERO, {len(self.spans) - 1: ONE})

    def cut_from(self, fine):
        """Off by what's cut from a number of so many figures."""
        if fine <= self.figures:
            return (ZERO, {})
        return self.cut_within(less_of((1, 1 << fine), (1, 1 << self.figures)), ZERO)

    def chosen(self, one, other):
        """Off by what one or the other of two is, not told which."""
        if one == other:
            return one
        spans = [self.span_of(one), self.span_of(other)]
        return self.cut_within(least_num([low for low, high in spans]), most_num([high for low, high in spans]))

    def of_args(self, word, what, offs):
        if word == "sum":
            return with_times(offs[0], offs[1], ONE)
        if word == "less":
            return with_times(offs[0], offs[1], MINUS_ONE)
        if word == "by":
            return with_times(self.cut_from(self.figures + figures_of(what)), offs[0], what)
        return self.chosen(offs[-2], offs[-1])

    def off_at(self, node, at):
        """By how much number `at`, from 0, of a node is off."""
        word, what, args, _ = self.nodes[node]
        within = [self.lists[arg] for arg in args]
        if word == "spring":
            return self.cut_from(self.fine)
        if word == "fixed" or (word == "late" and at == 0):
            return (less_of(cut_of(what, self.figures), what), {})
        if word == "late":
            return within[0][at - 1]
        if word == "half":
            return within[0][2 * at]
        if word == "twice":
            return within[0][at // 2]
        return self.of_args(word, what, [offs[at] for offs in within])

    def fill(self, order, beat):
        """All nodes, in an order in which they can be done, tell by how much theirs of that beat are off."""
        for node in order:
            period = self.nodes[node][3]
            if beat % period == 0:
                self.lists[node].append(self.off_at(node, beat // period))
