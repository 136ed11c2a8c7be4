"""Things that are a little, or wholly, other than a paper."""

ODD = [
    None, True, False, 0, 1, -1, 2, 10 ** 9, "", "a", "zz", "beat", [], (), [[]], ((),), [None], (1,), [1, 2],
    ("a", ()), (("a", ()), 1), [("a", ())], [(0, 1)], ([], []), {}.get("a"),
]


def other_kinds(thing):
    """The same, but a list for a tuple, a tuple for a list, True for 1, False for 0."""
    if isinstance(thing, list):
        return [tuple(thing)]
    if isinstance(thing, tuple):
        return [list(thing)]
    if thing is True or thing is False:
        return [int(thing)]
    if thing in (0, 1):
        return [bool(thing)]
    return []


def spoilt_straight(thing):
    """All things that are otherwise at the top of a list or a tuple."""
    kind = type(thing)
    for at, inner in enumerate(thing):
        yield kind([*thing[:at], *thing[at + 1:]])
        yield kind([*thing[:at], inner, inner, *thing[at + 1:]])
        for other in range(at):
            turned = list(thing)
            turned[at], turned[other] = turned[other], turned[at]
            yield kind(turned)
    yield kind([*thing, None])


def spoilt_things(thing, deep=6):
    """Things each of which is otherwise at one place of the told one; now and then the same by chance."""
    yield from other_kinds(thing)
    if isinstance(thing, int) and not isinstance(thing, bool):
        yield thing + 1
        yield thing - 1
        yield 2 * thing
        yield -thing
    if isinstance(thing, str):
        yield thing + "a"
        yield thing[:-1]
    if deep == 6:
        yield from ODD
    else:
        yield from ODD[:4] + ["a", [], ()]
    if not isinstance(thing, (list, tuple)) or deep == 0:
        return
    yield from spoilt_straight(thing)
    for at, inner in enumerate(thing):
        for other in spoilt_things(inner, deep - 1):
            yield type(thing)([*thing[:at], other, *thing[at + 1:]])
