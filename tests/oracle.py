"""What programs tell, by [5] and [9] word by word and with Python's own fractions: number by number."""

import random
from fractions import Fraction

from brookworks.errors import Clash, Loose, Round, TooFar
from brookworks.looks import look, periods_of
from brookworks.programs import is_program
from tests.helpers import some_programs

REFUSED = (Round, Clash, Loose, TooFar)


def worth(number):
    return Fraction(number[0], number[1])


def as_number(fraction):
    return (fraction.numerator, fraction.denominator)


class Oracle:
    """Number n of each PLACE, of a program that can be looked at."""

    def __init__(self, program, given):
        self.brooks = dict(program[1])
        self.given = given
        self.known = {}

    def number(self, name, path, at):
        key = (name, path, at)
        if key not in self.known:
            part = self.brooks[name]
            for step in path:
                part = [inner for inner in part if isinstance(inner, tuple) and isinstance(inner[0], str)][step]
            self.known[key] = self.come_to(name, path, part, at)
        return self.known[key]

    def come_to(self, name, path, part, at):
        def of(which, number):
            return self.number(name, path + (which,), number)

        word = part[0]
        if word == "fixed":
            return worth(part[1])
        if word == "name":
            if part[1] in self.brooks:
                return self.number(part[1], (), at)
            return worth(self.given[part[1]][at])
        if word == "sum":
            return of(0, at) + of(1, at)
        if word == "less":
            return of(0, at) - of(1, at)
        if word == "by":
            return worth(part[1]) * of(0, at)
        if word == "pick":
            return of(1, at) if of(0, at) > 0 else of(2, at)
        if word == "late":
            return worth(part[1]) if at == 0 else of(0, at - 1)
        if word == "half":
            return of(0, 2 * at)
        if word == "twice":
            return of(0, at // 2)
        window = [of(0, number) if number >= 0 else worth(part[2]) for number in range(at - part[1] + 1, at + 1)]
        return {"most": max, "least": min, "over": sum}[word](window)

    def told(self, program, beats):
        """As plain_run tells it."""
        periods = dict(periods_of(program))
        told = {name: [] for name, _ in program[1]}
        for beat in range(beats):
            for name in told:
                if beat % periods[(name, ())] == 0:
                    told[name].append(as_number(self.number(name, (), beat // periods[(name, ())])))
        return told


def told_by(program, given, beats):
    return Oracle(program, given).told(program, beats)


def can_be_looked_at(program):
    try:
        periods_of(program)
    except REFUSED:
        return False
    return True


def check_refused_as_look_is(case, seed, ask):
    """Whether what asks of a program is refused just as look is, for each reason that there is."""
    kinds = set()
    for program in some_programs(seed, 500):
        try:
            look(program)
        except REFUSED as refused:
            kinds.add(type(refused))
            with case.assertRaises(type(refused)) as caught:
                ask(program)
            case.assertIs(type(caught.exception), type(refused))
            case.assertEqual(vars(caught.exception), vars(refused))
    case.assertEqual(kinds, set(REFUSED))


def some_given(dice, springs, beats, spare=0):
    """Numbers for pairs (NAME, period), as many as are told below beats, or more."""
    given = {}
    for name, period in springs:
        numbers = []
        for _ in range(-(-beats // period) + spare):
            numbers.append(as_number(Fraction(dice.randint(-40, 40), dice.choice([1, 1, 2, 4, 64]))))
        given[name] = numbers
    return given


class Maker:
    """Makes programs whose rates meet by how they're made, with many rounds through lates."""

    def __init__(self, dice):
        self.dice = dice
        names = ["x", "y", "z"][:dice.randint(1, 3)]
        self.springs = tuple((name, dice.choice([1, 1, 2, 2, 4, 8, 16])) for name in names)
        self.names = dice.sample(["a", "b", "c", "d", "e", "f"], dice.randint(1, 6))
        rates = [1, 1, 2, 2, 4, 8, 16]
        self.rates = {**dict(self.springs), **{name: dice.choice(rates) for name in self.names}}
        # Each uses now only those ahead of it here; in which order they stand in the program is another matter.
        self.order = dice.sample(self.names, len(self.names))

    def number(self):
        return as_number(Fraction(self.dice.randint(-30, 30), self.dice.choice([1, 1, 2, 16])))

    def term(self, rate, deep, names):
        """A TERM of that rate, in which of the brooks those of these names may stand in no late."""
        fit = [name for name in [*dict(self.springs), *names] if self.rates[name] == rate]
        words = ["sum", "less", "by", "pick", "late", "late", "late", "most", "least", "over"]
        if rate > 1:
            words += ["half", "half"]
        if rate < 16:
            words += ["twice", "twice"]
        if deep <= 1:
            words = []
        words += ["name"] * 3 if fit else []
        word = self.dice.choice(words or ["fixed"])
        if self.dice.random() < 0.05:
            word = "fixed"
        if word == "fixed":
            return (word, self.number())
        if word == "name":
            return (word, self.dice.choice(fit))
        if word == "half":
            return (word, self.term(rate // 2, deep - 1, names))
        if word == "twice":
            return (word, self.term(rate * 2, deep - 1, names))
        if word == "late":
            return (word, self.number(), self.term(rate, deep - 1, self.names))
        many = {"sum": 2, "less": 2, "pick": 3}.get(word, 1)
        inner = [self.term(rate, deep - 1, names) for _ in range(many)]
        if word == "by":
            return (word, self.number(), *inner)
        if word in ("most", "least", "over"):
            return (word, self.dice.randint(2, 5), self.number(), *inner)
        return (word, *inner)

    def program(self, deep):
        terms = {}
        for at, name in enumerate(self.order):
            terms[name] = self.term(self.rates[name], self.dice.randint(2, deep), self.order[:at])
        outs = self.dice.sample(self.names, min(len(self.names), self.dice.randint(1, 3)))
        return (self.springs, tuple((name, terms[name]) for name in self.names), tuple(outs))


def some_good_programs(seed, many, deep=5):
    """So many programs that can be looked at, within the bounds."""
    dice = random.Random(seed)
    found = []
    while len(found) < many:
        program = Maker(dice).program(deep)
        if is_program(program) and can_be_looked_at(program):
            found.append(program)
    return found
