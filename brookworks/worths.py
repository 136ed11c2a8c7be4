"""What TERMs and nodes come to, of the numbers of what's within."""

from brookworks.nums import is_below, least_num, less_of, most_num, sum_of, times_of

ZERO = (0, 1)


def of_args(word, what, args):
    """What a sum or the like comes to, of its args' numbers of the same beat."""
    if word == "sum":
        return sum_of(args[0], args[1])
    if word == "less":
        return less_of(args[0], args[1])
    if word == "by":
        return times_of(what, args[0])
    if word == "pick":
        return args[1] if is_below(ZERO, args[0]) else args[2]
    if word == "most":
        return most_num(args)
    return least_num(args)


def of_window(word, numbers):
    """What a most, least or over comes to, of the numbers in its window."""
    if word == "most":
        return most_num(numbers)
    if word == "least":
        return least_num(numbers)
    told = ZERO
    for number in numbers:
        told = sum_of(told, number)
    return told


def number_of(word, what, at, within):
    """Number `at`, from 0, of what's no window, of the lists of numbers of what's within."""
    if word == "fixed":
        return what
    if word == "late":
        return within[0][at - 1] if at > 0 else what
    if word == "half":
        return within[0][2 * at]
    if word == "twice":
        return within[0][at // 2]
    return of_args(word, what, [numbers[at] for numbers in within])
