"""Deeds that are handed in as tuples: a word, and all that the deed is asked with."""

from brookworks.errors import BadDeed
from brookworks.limits import MOST_BEATS
from brookworks.nums import is_whole

# Of each word what stands behind it; thing is anything.
DEEDS = {
    "feed": ("thing", "thing"),
    "go": ("beats",),
    "put": ("thing", "thing", "whether"),
    "drop": ("thing",),
    "show": ("thing",),
    "hide": ("thing",),
    "undo": (),
    "do": ("deeds", "whether"),
}


def is_of_deed(kind, thing):
    if kind == "beats":
        return is_whole(thing) and 1 <= thing <= MOST_BEATS
    if kind == "whether":
        return thing is True or thing is False
    if kind == "deeds":
        return type(thing) is list and all([is_deed(deed) for deed in thing])
    return True


def is_deed(thing):
    """Whether a thing is a deed, and all that a do's list holds is, too."""
    if type(thing) is not tuple or len(thing) == 0:
        return False
    word = thing[0]
    if type(word) is not str or word not in DEEDS:
        return False
    kinds = DEEDS[word]
    if len(thing) != 1 + len(kinds):
        return False
    return all([is_of_deed(kind, thing[at]) for at, kind in enumerate(kinds, start=1)])


def check_deeds(deeds):
    """Refused with BadDeed, the place in this list, of the first that's no deed: of the outermost do where
    what is none stands within."""
    for at, deed in enumerate(deeds):
        if not is_deed(deed):
            raise BadDeed(at)
