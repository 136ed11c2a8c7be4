"""Rows done to a mill at a desk: how they are written."""

from brookworks.limits import MOST_BEATS
from brookworks.terms import is_name
from brookworks.texts import num_or_none, term_or_none, whole_or_none

MOST_FIGURES = 30

# Of each word the kinds of words behind it; numbers are one or more, a term is all that's left.
ORDERS = {
    "feed": ("name", "numbers"),
    "go": ("beats",),
    "put": ("name", "term"),
    "keep": ("name", "term"),
    "drop": ("name",),
    "show": ("name",),
    "hide": ("name",),
    "undo": (),
    "beat": (),
    "round": (),
    "deeds": (),
    "periods": (),
    "left": ("name",),
    "boxes": (),
    "late": ("name", "name"),
    "noise": ("figures",),
}


def whole_from(word, least, most):
    """The whole number that a word tells; None where it's none, below least or above most."""
    number = whole_or_none(word)
    return number if number is not None and least <= number <= most else None


def value_of(kind, word):
    """What a word tells where that kind stands; None where it can't stand there."""
    if kind == "name":
        return word if is_name(word) else None
    return whole_from(word, 1, MOST_BEATS) if kind == "beats" else whole_from(word, 0, MOST_FIGURES)


def rest_of(kind, words):
    """What all words that are left tell, of which there's one at least; None where they can't stand there."""
    if kind == "term":
        return term_or_none(" ".join(words))
    numbers = [num_or_none(word) for word in words]
    return None if None in numbers or numbers == [] else numbers


def order_in(row):
    """The list of a row's word and the values behind it; None where it isn't so written."""
    words = row.split(" ")
    if words[0] not in ORDERS:
        return None
    told = [words[0]]
    rest = words[1:]
    for kind in ORDERS[words[0]]:
        if kind in ("term", "numbers"):
            told.append(rest_of(kind, rest))
            rest = []
        elif rest:
            told.append(value_of(kind, rest[0]))
            rest = rest[1:]
        else:
            return None
    return None if rest or None in told else told
