"""Programs run by blocks of beats, one group of brooks behind the other."""

from brookworks.limits import SIZE
from brookworks.programs import brook_names, come_to, uses_of
from brookworks.tables import Table
from brookworks.turns import order_of, turns_of


def groups_in_order(program):
    """The groups, by their first brooks."""
    brooks = brook_names(program)
    reached = {name: come_to(program, [name]) for name in brooks}
    groups = []
    for name in brooks:
        group = [other for other in reached[name] if name in reached[other]]
        if group[0] == name:
            groups.append(group)
    return groups


def groups_of(program):
    brooks = brook_names(program)
    rest = groups_in_order(program)
    told = []
    done = []
    while rest:
        for group in list(rest):
            used = [other for name in group for other in uses_of(program, name) if other in brooks]
            if all([other in done or other in group for other in used]):
                told.append(group)
                done.extend(group)
                rest.remove(group)
                break
    return told


def block_run(program, given, beats, *, size=SIZE):
    table = Table(program, given, beats)
    order = order_of(program)
    groups = [turns_of(program, [name for name in order if name in group]) for group in groups_of(program)]
    for first in range(0, beats, size):
        for turns in groups:
            for beat in range(first, min(first + size, beats)):
                table.fill(turns, beat)
    return table.told()
