"""Nodes as a program's PLACEs tell them, ahead of finding out which are alike."""

from brookworks.likeness import least_of
from brookworks.looks import periods_of
from brookworks.programs import come_to, spring_names, term_of
from brookworks.terms import WINDOWS, inner_of, number_in, places_in

# What a window's numbers are put together by.
JOINTS = {"most": "most", "least": "least", "over": "sum"}


def window_nodes(place, part, inner, period):
    """The nodes of a window of what's at the PLACE inner: the list of pairs (by what each is known, node),
    the last one known by the window's own PLACE."""
    nodes = []
    joined = inner
    late = inner
    for at in range(1, part[1]):
        late_node = ("late", number_in(part), (late,), period)
        late = (place, "late", at)
        joined_node = (JOINTS[part[0]], None, (joined, late), period)
        joined = place if at + 1 == part[1] else (place, "joined", at)
        nodes.extend([(late, late_node), (joined, joined_node)])
    return nodes


def nodes_at(program, place, part, period):
    """The list of pairs (by what each is known, node) of one PLACE; none of a name of a brook."""
    word = part[0]
    if word == "name":
        is_spring = part[1] in spring_names(program)
        return [(place, ("spring", part[1], (), period))] if is_spring else []
    name, path = place
    inner = [(name, path + (at,)) for at in range(len(inner_of(part)))]
    if word in WINDOWS:
        return window_nodes(place, part, inner[0], period)
    return [(place, (word, number_in(part), tuple(inner), period))]


class Draft:
    """The nodes of all brooks that are come to from the outs by names; refused as look is."""

    def __init__(self, program):
        periods = dict(periods_of(program))
        self.outs = program[2]
        self.nodes = {}
        # Of each PLACE of a brook's name the PLACE at which that brook tells.
        self.names = {}
        self.places = []
        for name in come_to(program, program[2]):
            for path, part in places_in(term_of(program, name)):
                place = (name, path)
                self.places.append(place)
                for known, node in nodes_at(program, place, part, periods[place]):
                    self.nodes[known] = node
                if place not in self.nodes:
                    self.names[place] = (part[1], ())

    def home_of(self, place):
        """Where that PLACE's number is first told: a name of a name of a brook leads on to it."""
        while place in self.names:
            place = self.names[place]
        return place

    def least(self):
        """As least_of tells."""
        nodes = {}
        for name, (word, what, args, period) in self.nodes.items():
            nodes[name] = (word, what, tuple([self.home_of(arg) for arg in args]), period)
        return least_of(nodes, [(out, self.home_of((out, ()))) for out in self.outs])


def drawn(program):
    """The pair of graph_of's GRAPH and the list of pairs (PLACE, node) of all those PLACEs."""
    draft = Draft(program)
    graph, numbers = draft.least()
    return (graph, [(place, numbers[draft.home_of(place)]) for place in draft.places])
