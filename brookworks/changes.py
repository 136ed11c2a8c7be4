"""What a program under work comes to be, and what's kept then; refused as a mill's deeds are."""

from brookworks.errors import (
    BadName, BadTerm, IsOut, LastOut, NoBrook, NoName, NotNow, NotOut, TooBig, Used,
)
from brookworks.limits import MOST_OUTS
from brookworks.looks import round_of
from brookworks.programs import brook_names, is_program, spring_names, uses_of, with_brook, without
from brookworks.streams import Streams
from brookworks.terms import is_name, is_term, names_in, part_at, window_of


def is_brook_of(program, thing):
    return type(thing) is str and thing in brook_names(program)


def is_out_of(program, thing):
    return type(thing) is str and thing in program[2]


def program_with(program, name, term):
    if not is_name(name) or name in spring_names(program):
        raise BadName(name)
    if not is_term(term):
        raise BadTerm(term)
    changed = with_brook(program, name, term)
    names = spring_names(changed) + brook_names(changed)
    for used in names_in(term):
        if used not in names:
            raise NoName(used)
    if not is_program(changed):
        raise TooBig()
    return changed


def program_less(program, name):
    if not is_brook_of(program, name):
        raise NoBrook(name)
    for other in brook_names(program):
        if other != name and name in uses_of(program, other):
            raise Used(other)
    if program[2] == (name,):
        raise LastOut(name)
    return without(program, name)


def program_showing(program, name):
    springs, brooks, outs = program
    if not is_brook_of(program, name):
        raise NoBrook(name)
    if name in outs:
        raise IsOut(name)
    if len(outs) == MOST_OUTS:
        raise TooBig()
    return (springs, brooks, outs + (name,))


def program_hiding(program, name):
    springs, brooks, outs = program
    if not is_out_of(program, name):
        raise NotOut(name)
    if outs == (name,):
        raise LastOut(name)
    return (springs, brooks, tuple([out for out in outs if out != name]))


def check_now(program, changed, beat):
    """Refused with NotNow where a round of one or the other is under way."""
    if beat % round_of(changed) != 0 or beat % round_of(program) != 0:
        raise NotNow(beat)


def is_like(part, other):
    """Whether what one part keeps can be kept by the other one that's put in its place."""
    return part[0] == other[0] and part[0] != "twice" and window_of(part) == window_of(other)


def part_of(program, place):
    name, path = place
    return part_at(dict(program[1])[name], path)


def changed_streams(streams, program, put, keep):
    """The streams of another program that go on where these are, put being the name of the brook
    whose TERM is another one, None of none."""
    fresh = Streams(program)
    fresh.next_beat = streams.next_beat
    fresh.queues = {name: list(streams.queues[name]) for name in streams.queues}
    for place in list(fresh.keeping):
        if place in streams.keeping:
            stays = place[0] != put
            if stays or (keep and is_like(part_of(streams.plan, place), part_of(program, place))):
                fresh.keeping[place] = streams.keeping[place]
    return fresh
