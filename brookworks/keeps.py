"""What lates, windows and twices keep from one beat to the next."""

from brookworks.terms import WINDOWS, number_in
from brookworks.worths import of_args, of_window


def keeps(part):
    return part[0] in ("late", "twice") or part[0] in WINDOWS


def first_kept(part):
    """What's kept at the beginning."""
    if part[0] == "twice":
        return ()
    return (number_in(part),) * (1 if part[0] == "late" else part[1] - 1)


def kept_next(kept, numbers):
    """What's kept behind a beat at which it tells a number, by those told within at that beat (a
    twice that tells its number again has none there, and keeps none)."""
    return kept[1:] + tuple(numbers)


def number_now(part, kept, numbers):
    """What it tells, by what's kept and by the numbers told within at this beat."""
    word = part[0]
    if word == "fixed":
        return part[1]
    if word in ("late", "twice") and kept:
        return kept[0]
    if word in ("half", "twice"):
        return numbers[0]
    if word in WINDOWS:
        return of_window(word, list(kept) + numbers)
    return of_args(word, number_in(part), numbers)
