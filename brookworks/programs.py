"""PROGRAMs: tuples (springs, brooks, outs)."""

from brookworks.errors import NoBrook
from brookworks.limits import (
    MOST_BROOKS, MOST_IN_WINDOWS, MOST_OUTS, MOST_PARTS, MOST_SPRINGS, PERIODS,
)
from brookworks.nums import is_whole
from brookworks.terms import is_name, is_term, names_in, names_now, parts_of, paths_of, windows_in


def is_row_of(thing, most):
    return type(thing) is tuple and 1 <= len(thing) <= most


def is_pair(thing):
    return type(thing) is tuple and len(thing) == 2


def are_unlike(names):
    return len(set(names)) == len(names)


def is_period(thing):
    return is_whole(thing) and thing in PERIODS


def is_spring(thing):
    return is_pair(thing) and is_name(thing[0]) and is_period(thing[1])


def is_brook(thing):
    return is_pair(thing) and is_name(thing[0]) and is_term(thing[1])


def are_springs(thing):
    return is_row_of(thing, MOST_SPRINGS) and all([is_spring(spring) for spring in thing])


def are_brooks(thing):
    if not is_row_of(thing, MOST_BROOKS) or not all([is_brook(brook) for brook in thing]):
        return False
    if sum([parts_of(term) for name, term in thing]) > MOST_PARTS:
        return False
    return sum([windows_in(term) for name, term in thing]) <= MOST_IN_WINDOWS


def are_outs(thing, brooks):
    """Whether a thing is a tuple of unlike names, each in the list of brooks' names."""
    if not is_row_of(thing, MOST_OUTS) or not all([is_name(out) for out in thing]):
        return False
    return are_unlike(thing) and all([out in brooks for out in thing])


def is_program(thing):
    if type(thing) is not tuple or len(thing) != 3:
        return False
    springs, brooks, outs = thing
    if not are_springs(springs) or not are_brooks(brooks):
        return False
    names = spring_names(thing) + brook_names(thing)
    if not are_unlike(names) or not are_outs(outs, brook_names(thing)):
        return False
    used = [name for brook, term in brooks for name in names_in(term)]
    return all([name in names for name in used])


def spring_names(program):
    return [name for name, period in program[0]]


def brook_names(program):
    return [name for name, term in program[1]]


def term_of(program, name):
    for brook, term in program[1]:
        if brook == name:
            return term
    raise NoBrook(name)


def places_of(program):
    return [(name, path) for name, term in program[1] for path in paths_of(term)]


def uses_of(program, name, *, now=False):
    term = term_of(program, name)
    return names_now(term) if now else names_in(term)


def come_to(program, names):
    """The list of those of these brooks, and of all to which they come by uses, in the program's order."""
    found = []
    rest = list(names)
    brooks = brook_names(program)
    while rest:
        name = rest.pop()
        if name in brooks and name not in found:
            found.append(name)
            rest.extend(uses_of(program, name))
    return [name for name in brooks if name in found]


def with_brook(program, name, term):
    springs, brooks, outs = program
    if name not in brook_names(program):
        return (springs, brooks + ((name, term),), outs)
    kept = [(brook, term if brook == name else old) for brook, old in brooks]
    return (springs, tuple(kept), outs)


def without(program, name):
    springs, brooks, outs = program
    if name not in brook_names(program):
        raise NoBrook(name)
    kept = [(brook, term) for brook, term in brooks if brook != name]
    return (springs, tuple(kept), tuple([out for out in outs if out != name]))
