"""Papers of a look at programs: that it can be done, or why it can't."""

from brookworks.errors import Clash, Loose, Round, TooFar
from brookworks.looks import brooks_used_now, periods_of, rules_of, ties_of
from brookworks.nums import is_whole
from brookworks.programs import are_unlike, is_pair
from brookworks.things import are_same, are_texts
from brookworks.turns import order_of


def look_paper(program):
    periods = periods_of(program)
    return (periods, order_of(program))


def shows_order(program, thing):
    """Whether a thing is a list of all brooks' names, each of which uses now only such ahead."""
    used = brooks_used_now(program)
    if not are_texts(thing) or sorted(thing) != sorted(used):
        return False
    return all([other in thing[:at] for at, name in enumerate(thing) for other in used[name]])


def shows_look(program, thing):
    if not is_pair(thing):
        return False
    try:
        periods = periods_of(program)
    except (Round, Clash, Loose, TooFar):
        return False
    return are_same(thing[0], periods) and shows_order(program, thing[1])


def shows_round(program, thing):
    if not are_texts(thing) or thing == [] or not are_unlike(thing):
        return False
    used = brooks_used_now(program)
    if not all([name in used for name in thing]):
        return False
    follows = thing[1:] + thing[:1]
    return all([other in used[name] for name, other in zip(thing, follows)])


def first_clash(program):
    """The number of the first rule that can't be kept with all ahead of it; None of none."""
    try:
        ties_of(program)
    except Clash as clash:
        return clash.number
    return None


def ends_of(rules, step):
    """The pair (where it begins, where it leads) of a step (number, way)."""
    number, way = step
    place, other, _ = rules[number]
    return (place, other) if way == 1 else (other, place)


def way_by(rules, begin, end):
    """A list of steps (number, way) from begin to end, which these rules tie, no spot come to twice."""
    steps = [(number, way) for number in range(len(rules)) for way in (1, -1)]
    ways = {begin: []}
    while end not in ways:
        for step in steps:
            spot, other = ends_of(rules, step)
            if spot in ways and other not in ways:
                ways[other] = ways[spot] + [step]
    return ways[end]


def clash_paper(program):
    number = first_clash(program)
    if number is None:
        return None
    rules = rules_of(program)
    place, other, _ = rules[number]
    return [(number, 1)] + way_by(rules[:number], other, place)


def is_step(thing, rules):
    """Whether a thing is a pair (number, way) of a rule."""
    if not is_pair(thing) or not is_whole(thing[0]) or not is_whole(thing[1]):
        return False
    return 0 <= thing[0] < len(rules) and thing[1] in (1, -1)


def shows_clash(program, thing):
    rules = rules_of(program)
    if type(thing) is not list or not all([is_step(step, rules) for step in thing]):
        return False
    begins = [ends_of(rules, step)[0] for step in thing]
    leads = [ends_of(rules, step)[1] for step in thing]
    if not are_unlike(begins) or leads != begins[1:] + begins[:1]:
        return False
    return sum([rules[number][2] * way for number, way in thing]) != 0
