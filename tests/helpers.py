"""What several tests use: short words for TERMs, sample TERMs and PROGRAMs."""

import random

from brookworks.texts import program_in

ZERO = (0, 1)
ONE = (1, 1)
HALF = (1, 2)

A = ("name", "a")
B = ("name", "b")
X = ("name", "x")
Y = ("name", "y")
FIX = ("fixed", ONE)

# One of each form of TERM.
FORMS = [
    FIX,
    X,
    ("sum", X, FIX),
    ("less", X, Y),
    ("by", HALF, X),
    ("pick", X, Y, FIX),
    ("late", ZERO, X),
    ("half", X),
    ("twice", X),
    ("most", 2, ZERO, X),
    ("least", 3, HALF, X),
    ("over", 5, (-1, 16), X),
]

# The texts of these.
FORM_TEXTS = [
    "1",
    "x",
    "sum x 1",
    "less x y",
    "by 1/2 x",
    "pick x y 1",
    "late 0 x",
    "half x",
    "twice x",
    "most 2 0 x",
    "least 3 1/2 x",
    "over 5 -1/16 x",
]

# A program with two springs of unlike periods, a round through a late, a window, and three outs.
BIG = (
    (("x", 1), ("y", 2)),
    (
        ("acc", ("sum", X, ("late", ZERO, ("name", "acc")))),
        ("thin", ("half", ("name", "acc"))),
        ("both", ("less", ("name", "thin"), Y)),
        ("thick", ("twice", ("most", 3, ZERO, ("name", "both")))),
    ),
    ("acc", "thick", "both"),
)

BIG_TEXT = "\n".join([
    "spring x 1",
    "spring y 2",
    "brook acc sum x late 0 acc",
    "brook thin half acc",
    "brook both less thin y",
    "brook thick twice most 3 0 both",
    "out acc",
    "out thick",
    "out both",
])

# Anything that is no TERM, no PROGRAM, no NUMBER, no NAME.
THINGS = [
    None, True, False, 0, 1, -1, "", "a b", "1", [], (), [[]], ((),), (None,), [None], (1,), (1, 2, 3),
    ("fixed",), ("name",), ["fixed", (1, 1)], (("fixed", (1, 1)),), ("sum",), ([], [], []), ((), (), ()),
    ({}.get("a"), ("a", [1, True])),
]


def program_of(*rows):
    return program_in("\n".join(rows))


def whole(*numbers):
    """NUMBERs of one part each."""
    return [(number, 1) for number in numbers]


def spring(name="x", period=1):
    """A NODE."""
    return ("spring", name, (), period)


def one_brook(term, *springs):
    """A PROGRAM of one brook a, and springs x, y (of period 1) where none are told."""
    return (springs or (("x", 1), ("y", 1)), (("a", term),), ("a",))


def halves(many, term):
    for _ in range(many):
        term = ("half", term)
    return term


def wide_term(parts):
    """A TERM of so many parts, no deeper than need be."""
    if parts == 1:
        return X
    if parts == 2:
        return ("half", X)
    left = (parts - 1) // 2
    return ("sum", wide_term(left), wide_term(parts - 1 - left))


def some_number(dice):
    parts = dice.choice([1, 1, 2, 4, 8, 16])
    number = dice.randint(-99, 99)
    return (number, 1) if parts == 1 else (number * 2 + 1 if abs(number) < 49 else 1, parts)


def some_term(dice, names, deep):
    """A TERM over names, in which each form may stand."""
    word = dice.choice(["fixed", "name", "name"]) if deep <= 1 else dice.choice(
        ["name", "fixed", "sum", "less", "by", "pick", "late", "late", "half", "twice", "most", "least", "over"])
    if word == "fixed":
        return (word, some_number(dice))
    if word == "name":
        return (word, dice.choice(names))
    many = {"sum": 2, "less": 2, "pick": 3}.get(word, 1)
    inner = tuple(some_term(dice, names, deep - 1) for _ in range(many))
    if word in ("by", "late"):
        return (word, some_number(dice), *inner)
    if word in ("most", "least", "over"):
        return (word, dice.randint(2, 5), some_number(dice), *inner)
    return (word, *inner)


def some_programs(seed, many, deep=3):
    """So many programs (within the bounds or somewhat beyond), the same for the same seed."""
    dice = random.Random(seed)
    told = []
    for _ in range(many):
        springs = tuple((name, dice.choice([1, 1, 1, 2, 2, 4, 8, 16])) for name in ["x", "y", "z"][:dice.randint(1, 3)])
        brooks = ["a", "b", "c", "d"][:dice.randint(1, 4)]
        names = [name for name, _ in springs] * 3 + brooks
        told.append((
            springs,
            tuple((name, some_term(dice, names, dice.randint(1, deep))) for name in brooks),
            tuple(dice.sample(brooks, min(3, dice.randint(1, len(brooks))))),
        ))
    return told


def spoilt(thing):
    """Of a tuple all ways in which one of it, at any depth, is left out, twice, or another thing."""
    if not isinstance(thing, tuple):
        return
    yield list(thing)
    for at, inner in enumerate(thing):
        yield thing[:at] + thing[at + 1:]
        yield thing[:at] + (inner, inner) + thing[at + 1:]
        for other in (None, True, False, [], (), "", "A", "toolong", "sum", "spring", 10 ** 9, -7, (1, 3), [1, 1]):
            yield thing[:at] + (other,) + thing[at + 1:]
        for other in spoilt(inner):
            yield thing[:at] + (other,) + thing[at + 1:]
