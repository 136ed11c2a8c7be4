"""A look at programs: how often each place tells a number, and whether rounds can be begun."""

from brookworks.errors import Clash, Loose, Round, TooFar
from brookworks.limits import PERIODS
from brookworks.programs import brook_names, places_of, uses_of
from brookworks.terms import inner_of, places_in

# By 2 to these powers the period of what's within is that of the whole; by 0 where none is told.
POWERS = {"half": -1, "twice": 1}


def rules_at(program, place, part):
    """The rules of one PLACE, at which that part stands."""
    if part[0] == "name":
        for name, period in program[0]:
            if name == part[1]:
                return [(place, "beat", -PERIODS.index(period))]
        return [(place, (part[1], ()), 0)]
    name, path = place
    power = POWERS.get(part[0], 0)
    return [(place, (name, path + (at,)), power) for at, inner in enumerate(inner_of(part))]


def rules_of(program):
    rules = []
    for name, term in program[1]:
        for path, part in places_in(term):
            rules.extend(rules_at(program, (name, path), part))
    return rules


def brooks_used_now(program):
    """The dict from each brook's name to the list of brooks that it uses now."""
    brooks = brook_names(program)
    used = {}
    for brook in brooks:
        used[brook] = [name for name in uses_of(program, brook, now=True) if name in brooks]
    return used


def stuck_in(used):
    """The list of those that use one another round and round, or use such."""
    stuck = list(used)
    while True:
        free = [name for name in stuck if not any([other in stuck for other in used[name]])]
        if not free:
            return stuck
        stuck = [name for name in stuck if name not in free]


def check_rounds(program):
    used = brooks_used_now(program)
    stuck = stuck_in(used)
    if not stuck:
        return
    way = [stuck[0]]
    while True:
        follow = [name for name in used[way[-1]] if name in stuck][0]
        if follow in way:
            raise Round(way[way.index(follow):])
        way.append(follow)


class Ties:
    """Spots (PLACEs, and beat) in groups: within one it's told how often periods are doubled."""

    def __init__(self, spots):
        # Of each spot: its group's first spot, and how often that one's period is doubled here.
        self.homes = {spot: (spot, 0) for spot in spots}
        self.groups = {spot: [spot] for spot in spots}

    def are_tied(self, one, other):
        return self.homes[one][0] == self.homes[other][0]

    def power_from(self, one, other):
        """How often one's period is doubled at the other, of the same group."""
        return self.homes[other][1] - self.homes[one][1]

    def tie(self, one, other, power):
        """Both groups are made one."""
        here, there = self.homes[one][0], self.homes[other][0]
        by = self.homes[one][1] + power - self.homes[other][1]
        for spot in self.groups[there]:
            self.homes[spot] = (here, self.homes[spot][1] + by)
        self.groups[here] = self.groups[here] + self.groups[there]
        del self.groups[there]


def ties_of(program):
    """The ties of all rules; refused with Clash."""
    ties = Ties(["beat"] + places_of(program))
    for number, (place, other, power) in enumerate(rules_of(program)):
        if not ties.are_tied(place, other):
            ties.tie(place, other, power)
        elif ties.power_from(place, other) != power:
            raise Clash(number)
    return ties


def periods_of(program):
    check_rounds(program)
    ties = ties_of(program)
    places = places_of(program)
    for place in places:
        if not ties.are_tied("beat", place):
            raise Loose(place)
    powers = [(place, ties.power_from("beat", place)) for place in places]
    for place, power in powers:
        if not 0 <= power < len(PERIODS):
            raise TooFar(place)
    return [(place, PERIODS[power]) for place, power in powers]


def look(program):
    return [(name, period) for (name, path), period in periods_of(program) if path == ()]


def round_of(program):
    """The ROUND: the greatest of all periods, springs' too."""
    springs = [period for name, period in program[0]]
    return max(springs + [period for place, period in periods_of(program)])
