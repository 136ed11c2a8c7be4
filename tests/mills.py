"""A mill by [19] and [20] word by word, with Python's own fractions, and deeds for it."""

import copy
from fractions import Fraction

from brookworks.looks import periods_of
from brookworks.programs import is_program, places_of, uses_of
from brookworks.terms import is_term, names_in, part_at
from tests.graphing import is_name, is_number
from tests.oracle import REFUSED, Maker, as_number, worth

WINDOWS = ("most", "least", "over")


class Refused(Exception):
    """kind is the class's name, field what it tells; not told of a Round's ring."""

    def __init__(self, kind, field=None):
        self.kind, self.field = kind, field


def periods(program):
    """As look's; refused as look is."""
    try:
        return dict(periods_of(program))
    except REFUSED as refused:
        kind = type(refused).__name__
        raise Refused(kind, None if kind == "Round" else list(vars(refused).values())[0]) from None


def round_of(program):
    return max([period for _, period in program[0]] + list(periods(program).values()))


def part_of(program, place):
    return part_at(dict(program[1])[place[0]], place[1])


def first_kept(part):
    if part[0] == "late":
        return (worth(part[1]),)
    if part[0] in WINDOWS:
        return (worth(part[2]),) * (part[1] - 1)
    return ()


def is_text_in(name, names):
    return type(name) is str and name in names


class Shadow:
    def __init__(self, program):
        periods(program)
        self.program = program
        self.at = 0
        self.kept = {place: first_kept(part_of(program, place)) for place in self.keeping(program)}
        self.left = {name: [] for name, _ in program[0]}
        self.told = []
        # Of each deed that stands the state ahead of it, and the deed.
        self.back = []
        self.busy = 0
        self.log = []

    def keeping(self, program):
        return [place for place in places_of(program) if part_of(program, place)[0] in ("late", "twice") + WINDOWS]

    def state(self):
        return copy.deepcopy((self.program, self.at, self.kept, self.left, self.told))

    def take_back(self, state):
        self.program, self.at, self.kept, self.left, self.told = state

    def brooks(self):
        return [name for name, _ in self.program[1]]

    def one_beat(self):
        rates = periods(self.program)
        taken = {name: self.left[name].pop(0) for name, period in self.program[0] if self.at % period == 0}
        known = {}

        def number(place):
            if place not in known:
                known[place] = come(place)
            return known[place]

        def come(place):
            part = part_of(self.program, place)
            word = part[0]
            within = [(place[0], place[1] + (at,)) for at in range(3)]
            if word == "fixed":
                return worth(part[1])
            if word == "name":
                return number((part[1], ())) if part[1] in self.brooks() else worth(taken[part[1]])
            if word in ("late", "twice") and self.kept[place]:
                return self.kept[place][0]
            if word in ("half", "twice"):
                return number(within[0])
            if word in WINDOWS:
                window = [*self.kept[place], number(within[0])]
                return {"most": max, "least": min, "over": sum}[word](window)
            if word == "by":
                return worth(part[1]) * number(within[0])
            if word == "pick":
                return number(within[1]) if number(within[0]) > 0 else number(within[2])
            return number(within[0]) + number(within[1]) * (1 if word == "sum" else -1)

        now = [place for place in places_of(self.program) if self.at % rates[place] == 0]
        row = [(out, as_number(number((out, ())))) for out in self.program[2] if (out, ()) in now]
        kept = dict(self.kept)
        for place in now:
            inner = (place[0], place[1] + (0,))
            if place in kept:
                twice = part_of(self.program, place)[0] == "twice"
                if twice and kept[place]:
                    kept[place] = ()
                else:
                    kept[place] = (kept[place] + (number(inner),))[0 if twice else 1:]
        self.kept = kept
        self.told.extend((self.at, name, one) for name, one in row)
        self.at += 1
        return row

    def feed(self, name, numbers):
        if not is_text_in(name, self.left):
            raise Refused("NoSpring", name)
        if type(numbers) is not list or not 1 <= len(numbers) <= 64:
            raise Refused("BadNumbers", numbers)
        if not all(is_number(one) and abs(worth(one)) <= 999 and one[1] <= 64 for one in numbers):
            raise Refused("BadNumbers", numbers)
        self.left[name].extend(numbers)

    def go(self, beats=1):
        for name, period in sorted(self.program[0]):
            if len([at for at in range(self.at, self.at + beats) if at % period == 0]) > len(self.left[name]):
                raise Refused("Dry", name)
        return [self.one_beat() for _ in range(beats)]

    def become(self, program):
        """The program is another one, at a beat at which it may; lists of kept PLACEs are taken over."""
        ahead, behind = round_of(self.program), round_of(program)
        if self.at % ahead or self.at % behind:
            raise Refused("NotNow", self.at)
        self.program = program

    def put(self, name, term, keep):
        springs, brooks, outs = self.program
        if not is_name(name) or name in self.left:
            raise Refused("BadName", name)
        if not is_term(term):
            raise Refused("BadTerm", term)
        if name in self.brooks():
            changed = (springs, tuple((other, term if other == name else old) for other, old in brooks), outs)
        else:
            changed = (springs, brooks + ((name, term),), outs)
        for used in names_in(term):
            if used not in [*self.left, *self.brooks(), name]:
                raise Refused("NoName", used)
        if not is_program(changed):
            raise Refused("TooBig")
        ahead = self.program
        self.become(changed)
        kept = {}
        for place in self.keeping(changed):
            part = part_of(changed, place)
            kept[place] = first_kept(part)
            if place[0] != name:
                kept[place] = self.kept[place]
            elif keep and place in self.kept and part[0] != "twice":
                old = part_of(ahead, place)
                if old[0] == part[0] and (part[0] == "late" or old[1] == part[1]):
                    kept[place] = self.kept[place]
        self.kept = kept

    def drop(self, name):
        springs, brooks, outs = self.program
        if not is_text_in(name, self.brooks()):
            raise Refused("NoBrook", name)
        for other in self.brooks():
            if other != name and name in uses_of(self.program, other):
                raise Refused("Used", other)
        if outs == (name,):
            raise Refused("LastOut", name)
        changed = (springs, tuple(brook for brook in brooks if brook[0] != name), tuple(out for out in outs if out != name))
        self.become(changed)
        self.kept = {place: kept for place, kept in self.kept.items() if place[0] != name}

    def show(self, name):
        springs, brooks, outs = self.program
        if not is_text_in(name, self.brooks()):
            raise Refused("NoBrook", name)
        if name in outs:
            raise Refused("IsOut", name)
        if len(outs) > 2:
            raise Refused("TooBig")
        self.program = (springs, brooks, (*outs, name))

    def hide(self, name):
        springs, brooks, outs = self.program
        if not is_text_in(name, outs):
            raise Refused("NotOut", name)
        if len(outs) == 1:
            raise Refused("LastOut", name)
        self.program = (springs, brooks, tuple(out for out in outs if out != name))

    def do_deed(self, deed):
        """What a deed tells; refused with Refused, all being as it was but for a do in part."""
        word, *things = deed
        if word == "undo":
            if not self.back:
                return False
            state, _ = self.back.pop()
            # A row that's done whole may bring back what's popped here.
            self.take_back(copy.deepcopy(state))
            return True
        if word == "do":
            return self.do(*things)
        state = self.state()
        try:
            told = getattr(self, word)(*things)
        except Refused:
            self.take_back(state)
            raise
        self.back.append((state, deed))
        return told

    def do(self, deeds, whole=True):
        state, back = self.state(), list(self.back)
        self.busy += 1
        self.log.append(("in", self.busy))
        try:
            return [self.do_deed(deed) for deed in deeds]
        except Refused:
            if whole:
                self.take_back(state)
                self.back = back
            raise
        finally:
            self.log.append(("out", self.busy))
            self.busy -= 1


def some_deed(dice, shadow, deep=2):
    """A deed for what stands, which is now and then refused."""
    springs, brooks, outs = shadow.program
    names = [name for name, _ in springs] + [name for name, _ in brooks]
    word = dice.choice(["feed"] * 4 + ["go"] * 4 + ["put"] * 5 + ["drop", "show", "show", "hide", "undo", "undo"] + ["do"] * deep)
    name = dice.choice([*names, *names, "new", "other", "q", "sum"])
    if word == "feed":
        numbers = [as_number(Fraction(dice.randint(-40, 40), dice.choice([1, 2, 64]))) for _ in range(dice.randint(0, 20))]
        return (word, dice.choice([spring for spring, _ in springs] * 6 + [name]), numbers)
    if word == "go":
        return (word, dice.choice([1, 1, 2, 3, 4, 8, 16]))
    if word == "put":
        return (word, name, some_term_for(dice, shadow.program), dice.random() < 0.6)
    if word == "undo":
        return (word,)
    if word == "do":
        return (word, [some_deed(dice, shadow, deep - 1) for _ in range(dice.randint(0, 5))], dice.random() < 0.5)
    return (word, name)


def some_term_for(dice, program):
    """A TERM for one of a program's brooks: often as it stands with another number or word within."""
    maker = Maker(dice)
    rates = {place[0]: period for place, period in periods_of(program) if place[1] == ()}
    maker.springs, maker.names = program[0], list(rates)
    maker.rates = {**dict(program[0]), **rates, "ghost": 1}
    names = dice.sample(maker.names, dice.randint(0, len(maker.names))) + (["ghost"] if dice.random() < 0.05 else [])
    if dice.random() < 0.3:
        return with_other_numbers(dice, dice.choice(program[1])[1])
    return maker.term(dice.choice(list(maker.rates.values())), dice.randint(2, 4), names)


def with_other_numbers(dice, term):
    if term[0] == "name":
        return term
    told = [term[0]]
    for thing in term[1:]:
        if isinstance(thing, int):
            told.append(dice.choice([thing, thing, dice.randint(2, 5)]))
        elif isinstance(thing[0], int):
            told.append(dice.choice([thing, (dice.randint(-9, 9), 1)]))
        else:
            told.append(with_other_numbers(dice, thing))
    return tuple(told)
