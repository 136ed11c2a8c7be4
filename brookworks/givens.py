"""GIVENs: dicts from springs' NAMEs to lists of NUMBERs."""

from brookworks.errors import NoSpring, NotGiven
from brookworks.limits import FINEST_TOLD, MOST_TOLD
from brookworks.nums import is_num_within


def many_below(period, beats):
    """How many numbers of such a period are told at all beats below that."""
    return (beats + period - 1) // period


def check_counts(counts, given):
    """counts are pairs (NAME, how many numbers are wanted)."""
    for name, many in sorted(counts):
        numbers = given.get(name)
        if type(numbers) is not list or len(numbers) < many:
            raise NotGiven(name)


def check_given(springs, given, beats):
    """springs are pairs (NAME, period)."""
    check_counts([(name, many_below(period, beats)) for name, period in springs], given)


def is_told(thing):
    """Whether a thing is a number that a spring can tell."""
    return is_num_within(thing, MOST_TOLD, FINEST_TOLD)


def queue_in(queues, name):
    """What's fed of a spring and not told yet, queues being the dict from springs' NAMEs to such lists."""
    if name not in queues:
        raise NoSpring(name)
    return queues[name]
