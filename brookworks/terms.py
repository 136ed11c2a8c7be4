"""TERMs: how one brook's numbers come of others'."""

from brookworks.errors import NoPath
from brookworks.limits import (
    FINEST_PARTS, KEYWORDS, LONGEST_NAME, LONGEST_WINDOW, MOST_DEEP, MOST_IN_WINDOWS,
    MOST_PARTS, MOST_WORTH, SHORTEST_WINDOW,
)
from brookworks.nums import is_num_within, is_whole

# Of each word what stands behind it: first things of these kinds, then so many TERMs.
SHAPES = {
    "fixed": (("number",), 0),
    "name": (("name",), 0),
    "sum": ((), 2),
    "less": ((), 2),
    "by": (("number",), 1),
    "pick": ((), 3),
    "late": (("number",), 1),
    "half": ((), 1),
    "twice": ((), 1),
    "most": (("window", "number"), 1),
    "least": (("window", "number"), 1),
    "over": (("window", "number"), 1),
}

WINDOWS = ("most", "least", "over")


def is_name(thing):
    if type(thing) is not str or not 1 <= len(thing) <= LONGEST_NAME:
        return False
    return thing not in KEYWORDS and all(["a" <= sign <= "z" for sign in thing])


def is_of_kind(kind, thing):
    """Whether a thing can stand where a TERM of a word has such a kind of thing."""
    if kind == "name":
        return is_name(thing)
    if kind == "window":
        return is_whole(thing) and SHORTEST_WINDOW <= thing <= LONGEST_WINDOW
    return is_num_within(thing, MOST_WORTH, FINEST_PARTS)


def is_headed(thing):
    """Whether a thing would be a TERM if all that stands in its TERMs' places were."""
    if type(thing) is not tuple or len(thing) == 0:
        return False
    word = thing[0]
    if type(word) is not str or word not in SHAPES:
        return False
    kinds, many = SHAPES[word]
    if len(thing) != 1 + len(kinds) + many:
        return False
    return all([is_of_kind(kind, thing[at]) for at, kind in enumerate(kinds, start=1)])


def inner_of(term):
    """The TERMs straight within."""
    kinds, _ = SHAPES[term[0]]
    return term[1 + len(kinds):]


def number_in(part):
    """The NUMBER that stands in the part itself; None where none does."""
    kinds, _ = SHAPES[part[0]]
    return part[1 + kinds.index("number")] if "number" in kinds else None


def window_of(part):
    """How long the part's window is; 0 where it's none."""
    return part[1] if part[0] in WINDOWS else 0


def is_term(thing):
    parts = 0
    windows = 0
    rest = [(thing, 1)]
    while rest:
        part, deep = rest.pop()
        if deep > MOST_DEEP or not is_headed(part):
            return False
        parts += 1
        windows += window_of(part)
        # Asked at each part, as what is handed in may have a great many.
        if parts > MOST_PARTS or windows > MOST_IN_WINDOWS:
            return False
        rest.extend([(inner, deep + 1) for inner in inner_of(part)])
    return True


def places_in(term):
    """The list of pairs (PATH, part) of all its parts, parts ahead of the whole, in order."""
    found = []
    rest = [((), term)]
    while rest:
        path, part = rest.pop()
        found.append((path, part))
        rest.extend([(path + (at,), inner) for at, inner in enumerate(inner_of(part))])
    # Found were wholes ahead of their parts, the last parts first.
    return found[::-1]


def paths_of(term):
    return [path for path, part in places_in(term)]


def parts_to(term, path):
    """The parts on the way to that PATH, the TERM itself first."""
    if type(path) is not tuple:
        raise NoPath(path)
    way = [term]
    for at in path:
        inner = inner_of(way[-1])
        if not is_whole(at) or not 0 <= at < len(inner):
            raise NoPath(path)
        way.append(inner[at])
    return way


def part_at(term, path):
    return parts_to(term, path)[-1]


def put_at(term, path, other):
    told = other
    steps = list(zip(parts_to(term, path), path))
    for whole, at in steps[::-1]:
        place = len(whole) - len(inner_of(whole)) + at
        told = whole[:place] + (told,) + whole[place + 1:]
    return told


def parts_of(term):
    return len(places_in(term))


def deep_of(term):
    return 1 + max([len(path) for path in paths_of(term)])


def windows_in(term):
    """How long its windows are together."""
    return sum([window_of(part) for path, part in places_in(term)])


def names_in(term):
    return sorted(set([part[1] for path, part in places_in(term) if part[0] == "name"]))


def names_now(term):
    """The rising list of the names that stand somewhere in no late."""
    names = []
    rest = [term]
    while rest:
        part = rest.pop()
        if part[0] == "name":
            names.append(part[1])
        elif part[0] != "late":
            rest.extend(inner_of(part))
    return sorted(set(names))
