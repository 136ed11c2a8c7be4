"""Whether a CODE tells a graph's numbers for ever: a look at one round, row by row."""

from brookworks.graphs import is_node_of
from brookworks.nodes import round_in
from brookworks.nums import is_num, is_whole
from brookworks.rows import box_of, reads_of
from brookworks.things import are_same

MOST_TO_CALL = 10 ** 6

# Of each word of a row what stands behind it; home is a box, or None.
ROWS = {
    "take": ("home", "name"),
    "fix": ("box", "number"),
    "sum": ("box", "box", "box"),
    "less": ("box", "box", "box"),
    "most": ("box", "box", "box"),
    "least": ("box", "box", "box"),
    "by": ("box", "number", "box"),
    "pick": ("box", "box", "box", "box"),
    "copy": ("box", "box"),
    "give": ("name", "box"),
}

# The nodes whose numbers come of these rows have other words.
NODE_WORDS = {"take": "spring", "fix": "fixed"}


def is_box(thing, boxes):
    return is_whole(thing) and 0 <= thing < boxes


def is_of_row(kind, thing, boxes):
    """Whether a thing can stand where a row has such a kind of thing."""
    if kind == "name":
        return type(thing) is str
    if kind == "number":
        return is_num(thing)
    return is_box(thing, boxes) or (kind == "home" and thing is None)


def is_row(thing, boxes):
    if type(thing) is not tuple or len(thing) == 0:
        return False
    word = thing[0]
    if type(word) is not str or word not in ROWS:
        return False
    kinds = ROWS[word]
    if len(thing) != 1 + len(kinds):
        return False
    return all([is_of_row(kind, thing[at], boxes) for at, kind in enumerate(kinds, start=1)])


def is_kept_row(nodes, thing, boxes):
    """Whether a thing is a triple (box, node, N) of a late or a twice."""
    if type(thing) is not tuple or len(thing) != 3:
        return False
    box, node, number = thing
    if not is_box(box, boxes) or not is_node_of(node, len(nodes)):
        return False
    return nodes[node][0] in ("late", "twice") and are_same(number, nodes[node][1])


def are_kept(nodes, thing, boxes):
    if type(thing) is not tuple or not all([is_kept_row(nodes, row, boxes) for row in thing]):
        return False
    homes = [box for box, node, number in thing]
    keeping = [at for at, node in enumerate(nodes) if node[0] in ("late", "twice")]
    return homes == sorted(set(homes)) and sorted([node for box, node, number in thing]) == keeping


def is_code(graph, thing):
    """Whether a thing is a CODE of the graph, each box in it one of its boxes."""
    if type(thing) is not tuple or len(thing) != 3:
        return False
    boxes, kept, beats = thing
    if not is_whole(boxes) or boxes > MOST_TO_CALL or not are_kept(graph[0], kept, boxes):
        return False
    if type(beats) is not tuple or len(beats) != round_in(graph):
        return False
    if not all([type(rows) is tuple for rows in beats]):
        return False
    return all([is_row(row, boxes) for rows in beats for row in rows])


def held_as(nodes, node, at):
    """Of all numbers (node, at) of a round that are held wherever that one is, the one that stands for them."""
    word = nodes[node][0]
    while word in ("half", "twice") or (word == "late" and at > 0):
        if word == "late":
            at = at - 1
        else:
            at = 2 * at if word == "half" else at // 2
        node = nodes[node][2][0]
        word = nodes[node][0]
    return (node, at)


class Holding:
    """What boxes hold in a round's course: of each box the list of numbers of which it's so."""

    def __init__(self, graph, kept):
        self.nodes, self.outs = graph
        self.long = round_in(graph)
        self.lates = [(box, node) for box, node, number in kept if number is not None]
        self.holds = {box: [(node, 0)] for box, node in self.lates}
        self.now = 0
        self.taken = []
        self.given = []

    def at_now(self, node):
        """What stands for the number that a node tells at this beat."""
        return held_as(self.nodes, node, self.now // self.nodes[node][3])

    def tells(self, node):
        return self.now % self.nodes[node][3] == 0

    def telling(self, word, what):
        """The nodes of that word and what that tell a number at this beat."""
        found = [at for at, node in enumerate(self.nodes) if node[0] == word and node[1] == what]
        return [node for node in found if self.tells(node)]

    def comes(self, row):
        """The list of numbers that come of a row that's no give."""
        word = row[0]
        read = [self.holds.get(box, []) for box in reads_of(row)]
        if word == "copy":
            return list(read[0])
        what = row[2] if word in ("take", "fix", "by") else None
        come = []
        for node in self.telling(NODE_WORDS.get(word, word), what):
            args = [self.at_now(arg) for arg in self.nodes[node][2]]
            if all([arg in held for arg, held in zip(args, read)]):
                come.append(self.at_now(node))
        return come

    def gives(self, row):
        """Whether a give is right."""
        _, name, box = row
        self.given.append((self.now, name))
        nodes = [node for out, node in self.outs if out == name and self.tells(node)]
        return all([self.at_now(node) in self.holds.get(box, []) for node in nodes])

    def does(self, row):
        """Whether a row is right; what comes is then held."""
        if row[0] == "give":
            return self.gives(row)
        come = self.comes(row)
        box = box_of(row)
        if box is not None:
            self.holds[box] = come
        if row[0] == "take":
            self.taken.append((self.now, row[2]))
        return len(come) > 0

    def beats_of(self, pairs):
        """The rising list of pairs (beat, NAME) of all beats of a round at which these pairs (NAME, node) tell."""
        rows = [(beat, name) for name, node in pairs for beat in range(0, self.long, self.nodes[node][3])]
        return sorted(rows)

    def ends_right(self):
        """Whether, at the round's end, all is taken and given, and each late's next number kept."""
        springs = [(node[1], at) for at, node in enumerate(self.nodes) if node[0] == "spring"]
        if sorted(self.taken) != self.beats_of(springs) or sorted(self.given) != self.beats_of(self.outs):
            return False
        return all([self.at_now(node) in self.holds[box] for box, node in self.lates])


def shows_code(graph, thing):
    if not is_code(graph, thing):
        return False
    boxes, kept, beats = thing
    holding = Holding(graph, kept)
    for rows in beats:
        for row in rows:
            if not holding.does(row):
                return False
        holding.now += 1
    return holding.ends_right()
