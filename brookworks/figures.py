"""How many figures a graph's numbers have at most."""

from brookworks.likeness import called_as_come_to
from brookworks.limits import FINE
from brookworks.nums import figures_of


def args_counted(node):
    """The args whose figures count: of a pick not t's."""
    return node[2][1:] if node[0] == "pick" else node[2]


def counted_from(nodes, firsts):
    """The list of all nodes to which these come by args that count."""
    counted = {at: (node[0], node[1], args_counted(node), node[3]) for at, node in enumerate(nodes)}
    return called_as_come_to(counted, firsts)


def growing(nodes):
    """The nodes of each by that has figures and comes to itself: its numbers have ever more."""
    products = [at for at, node in enumerate(nodes) if node[0] == "by" and figures_of(node[1]) > 0]
    return [at for at in products if at in counted_from(nodes, list(nodes[at][2]))]


def figures_at(node, known, fine):
    """By the rule, of the list of figures that are known of all nodes."""
    word, what, _, _ = node
    most = max([0] + [known[arg] for arg in args_counted(node)])
    if word == "spring":
        return fine
    if word == "by":
        return figures_of(what) + most
    return max(most, figures_of(what)) if what is not None else most


def figures_by(graph, *, fine=FINE):
    nodes = graph[0]
    beyond = growing(nodes)
    endless = [any([at in beyond for at in counted_from(nodes, [node])]) for node in range(len(nodes))]
    known = [0] * len(nodes)
    again = True
    while again:
        told = [0 if endless[at] else figures_at(node, known, fine) for at, node in enumerate(nodes)]
        again = told != known
        known = told
    return [None if endless[at] else known[at] for at in range(len(nodes))]
