"""The NODEs of a GRAPH: what each is made of, and in which order they're done."""


def args_now(node):
    """The args whose numbers of the same beat it needs: a late needs none."""
    return () if node[0] == "late" else node[2]


def springs_in(graph):
    """The rising list of pairs (NAME, period) of the springs that are nodes."""
    return sorted(set([(what, period) for word, what, args, period in graph[0] if word == "spring"]))


def round_in(graph):
    """The ROUND: the greatest of all periods."""
    return max([node[3] for node in graph[0]])


def nodes_in_turn(graph):
    """The list of all nodes, each behind those of which it needs numbers of the same beat."""
    nodes, outs = graph
    rest = [node for name, node in outs] + [node[2][0] for node in nodes if node[0] == "late"]
    done = {}
    while rest:
        needed = [arg for arg in args_now(nodes[rest[-1]]) if arg not in done]
        if needed:
            rest.extend(needed)
        else:
            done[rest.pop()] = True
    return list(done)
