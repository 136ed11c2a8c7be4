"""In which order brooks and PLACEs are done, that all they need at a beat is there."""

from brookworks.looks import brooks_used_now
from brookworks.programs import term_of
from brookworks.terms import inner_of, places_in


def order_of(program):
    """All brooks' names, each behind those that it uses now; the first one that can stands next."""
    used = brooks_used_now(program)
    order = []
    while len(order) < len(used):
        rest = [name for name in used if name not in order]
        ready = [name for name in rest if all([other in order for other in used[name]])]
        order.append(ready[0])
    return order


def paths_in_lates(term):
    """The dict from each PATH that stands somewhere in a late to True."""
    found = {}
    for path, part in places_in(term)[::-1]:
        # Wholes are gone through ahead of their parts here.
        if part[0] == "late" or path in found:
            for at in range(len(inner_of(part))):
                found[path + (at,)] = True
    return found


def turns_of(program, brooks):
    """The list of triples (PLACE, part, the PLACEs straight within) of these brooks, each behind
    all whose numbers of the same beat it needs, where each of the brooks is."""
    now = []
    later = []
    for name in brooks:
        term = term_of(program, name)
        in_lates = paths_in_lates(term)
        for path, part in places_in(term):
            within = [(name, path + (at,)) for at in range(len(inner_of(part)))]
            # What stands in a late may use brooks further on; it's needed at the next beat only.
            turns = later if path in in_lates else now
            turns.append(((name, path), part, within))
    return now + later
