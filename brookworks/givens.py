"""GIVENs: dicts from springs' NAMEs to lists of NUMBERs."""

from brookworks.errors import NotGiven


def many_below(period, beats):
    """How many numbers of such a period are told at all beats below that."""
    return (beats + period - 1) // period


def check_given(springs, given, beats):
    """springs are pairs (NAME, period)."""
    for name, period in sorted(springs):
        numbers = given.get(name)
        if type(numbers) is not list or len(numbers) < many_below(period, beats):
            raise NotGiven(name)
