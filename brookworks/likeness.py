"""Which nodes are alike, and how nodes are called. Nodes are dicts here, from anything by which
each is known to (word, what, args, period), args being such things, too."""


def numbered(marks):
    """The list in which each mark's number stands: like marks have one number."""
    numbers = {}
    for mark in marks:
        if mark not in numbers:
            numbers[mark] = len(numbers)
    return [numbers[mark] for mark in marks]


def kinds_of(nodes):
    """The dict from each node to a number: two have the same where they're alike, round and round, too."""
    names = list(nodes)
    kinds = numbered([(word, what, period) for word, what, args, period in nodes.values()])
    many = 0
    # As long as some that seemed alike are told apart by their args.
    while len(set(kinds)) > many:
        many = len(set(kinds))
        by_name = dict(zip(names, kinds))
        marks = [(by_name[name], tuple([by_name[arg] for arg in nodes[name][2]])) for name in names]
        kinds = numbered(marks)
    return dict(zip(names, kinds))


def called_as_come_to(nodes, firsts):
    """The list of all nodes that are come to from these: a node ahead of its args, these in
    order, and all that's come to by one ahead of the next."""
    found = {}
    rest = list(reversed(firsts))
    while rest:
        name = rest.pop()
        if name not in found:
            found[name] = True
            rest.extend(list(reversed(nodes[name][2])))
    return list(found)


def least_of(nodes, outs):
    """The pair of the GRAPH in which no two nodes are alike, outs being pairs (NAME, node), and
    the dict from each node to its node there."""
    kinds = kinds_of(nodes)
    merged = {}
    for name, (word, what, args, period) in nodes.items():
        merged[kinds[name]] = (word, what, tuple([kinds[arg] for arg in args]), period)
    order = called_as_come_to(merged, [kinds[name] for out, name in outs])
    numbers = {kind: at for at, kind in enumerate(order)}
    rows = []
    for kind in order:
        word, what, args, period = merged[kind]
        rows.append((word, what, tuple([numbers[arg] for arg in args]), period))
    told = tuple([(out, numbers[kinds[name]]) for out, name in outs])
    return ((tuple(rows), told), {name: numbers[kinds[name]] for name in nodes})
