"""A look at programs: rules, periods, refusals. [7]"""

import unittest
from fractions import Fraction

from brookworks.errors import Clash, Loose, Round, TooFar
from brookworks.looks import look, periods_of, round_of, rules_of
from brookworks.programs import is_program, places_of, uses_of, with_brook, without
from brookworks.terms import part_at
from tests.helpers import A, BIG, FIX, FORMS, X, Y, ZERO, halves, one_brook, program_of, some_programs


def kept(rules):
    """The periods (beat's being 1) of one way to keep all these rules, as far as tied to beat; None of no way."""
    periods = {"beat": Fraction(1)}
    ways = {}
    for place, other, power in rules:
        ways.setdefault(place, []).append((other, Fraction(2) ** power))
        ways.setdefault(other, []).append((place, Fraction(2) ** -power))
    for first in ["beat", *ways]:
        tied = dict.fromkeys([first], Fraction(1))
        rest = [first]
        while rest:
            place = rest.pop()
            for other, by in ways.get(place, []):
                if other not in tied:
                    tied[other] = tied[place] * by
                    rest.append(other)
                elif tied[other] != tied[place] * by:
                    return None
        if first == "beat":
            periods = tied
    return periods


def is_ring(program, ring):
    brooks = [name for name, term in program[1]]
    nexts = zip(ring, ring[1:] + ring[:1])
    return (
        type(ring) is list and ring != [] and len(set(ring)) == len(ring)
        and all(name in brooks for name in ring)
        and all(other in uses_of(program, name, now=True) for name, other in nexts)
    )


def has_ring(program):
    uses = {name: uses_of(program, name, now=True) for name, term in program[1]}
    for first in uses:
        seen, rest = set(), list(uses[first])
        while rest:
            name = rest.pop()
            if name == first:
                return True
            if name in uses and name not in seen:
                seen.add(name)
                rest.extend(uses[name])
    return False


def awaited(program):
    """What periods_of should tell, or the class of what refuses it and its field (None of a ring)."""
    if has_ring(program):
        return (Round, None)
    rules = rules_of(program)
    for many in range(len(rules)):
        if kept(rules[:many + 1]) is None:
            return (Clash, many)
    periods = kept(rules)
    for place in places_of(program):
        if place not in periods:
            return (Loose, place)
    for place in places_of(program):
        if periods[place] not in (1, 2, 4, 8, 16):
            return (TooFar, place)
    return [(place, int(periods[place])) for place in places_of(program)]


class Rules(unittest.TestCase):
    def test_of_each_form(self):
        for term in FORMS:
            rules = rules_of(one_brook(term, ("x", 4), ("y", 1)))
            with self.subTest(term):
                own = [(other, power) for place, other, power in rules if place == ("a", ())]
                power = {"half": -1, "twice": 1}.get(term[0], 0)
                if term == FIX:
                    self.assertEqual(rules, [])
                elif term == X:
                    self.assertEqual(rules, [(("a", ()), "beat", -2)])
                else:
                    many = {"sum": 2, "less": 2, "pick": 3}.get(term[0], 1)
                    self.assertEqual(own, [(("a", (at,)), power) for at in range(many)])

    def test_of_names(self):
        for period, power in [(1, 0), (2, -1), (4, -2), (8, -3), (16, -4)]:
            self.assertEqual(rules_of(one_brook(X, ("x", period))), [(("a", ()), "beat", power)])
        self.assertEqual(rules_of(one_brook(A)), [(("a", ()), ("a", ()), 0)])
        self.assertEqual(rules_of(one_brook(("half", A))), [
            (("a", (0,)), ("a", ()), 0), (("a", ()), ("a", (0,)), -1),
        ])

    def test_place_by_place(self):
        self.assertEqual(rules_of(BIG)[:7], [
            (("acc", (0,)), "beat", 0),
            (("acc", (1, 0)), ("acc", ()), 0),
            (("acc", (1,)), ("acc", (1, 0)), 0),
            (("acc", ()), ("acc", (0,)), 0),
            (("acc", ()), ("acc", (1,)), 0),
            (("thin", (0,)), ("acc", ()), 0),
            (("thin", ()), ("thin", (0,)), -1),
        ])
        self.assertEqual(rules_of(BIG)[-4:], [
            (("both", ()), ("both", (1,)), 0),
            (("thick", (0, 0)), ("both", ()), 0),
            (("thick", (0,)), ("thick", (0, 0)), 0),
            (("thick", ()), ("thick", (0,)), 1),
        ])
        self.assertEqual(rules_of(program=BIG), rules_of(BIG))

    def test_of_a_pick(self):
        self.assertEqual(rules_of(one_brook(("pick", X, FIX, Y), ("x", 1), ("y", 2))), [
            (("a", (0,)), "beat", 0),
            (("a", (2,)), "beat", -1),
            (("a", ()), ("a", (0,)), 0),
            (("a", ()), ("a", (1,)), 0),
            (("a", ()), ("a", (2,)), 0),
        ])


class Looks(unittest.TestCase):
    def refused(self, program, kind, field, worth):
        self.assertTrue(is_program(program))
        for ask in (look, periods_of):
            with self.subTest((program, ask)):
                with self.assertRaises(kind) as caught:
                    ask(program)
                self.assertIs(type(caught.exception), kind)
                self.assertEqual(getattr(caught.exception, field), worth)

    def ring_of(self, program):
        self.assertTrue(is_program(program))
        rings = []
        for ask in (look, periods_of):
            with self.assertRaises(Round) as caught:
                ask(program)
            self.assertTrue(is_ring(program, caught.exception.ring), caught.exception.ring)
            rings.append(caught.exception.ring)
        self.assertIsNot(rings[0], rings[1])
        return rings[0]

    def test_of_big(self):
        self.assertEqual(look(BIG), [("acc", 1), ("thin", 2), ("both", 2), ("thick", 1)])
        self.assertEqual(look(program=BIG), look(BIG))
        self.assertEqual(periods_of(program=BIG), periods_of(BIG))
        self.assertEqual(periods_of(BIG), [
            (("acc", (0,)), 1), (("acc", (1, 0)), 1), (("acc", (1,)), 1), (("acc", ()), 1),
            (("thin", (0,)), 1), (("thin", ()), 2),
            (("both", (0,)), 2), (("both", (1,)), 2), (("both", ()), 2),
            (("thick", (0, 0)), 2), (("thick", (0,)), 2), (("thick", ()), 1),
        ])
        self.assertEqual(round_of(BIG), 2)

    def test_of_one_form(self):
        for term, period in [
            (X, 2), (("sum", X, FIX), 2), (("by", ZERO, X), 2), (("pick", FIX, X, FIX), 2), (("late", ZERO, X), 2),
            (("half", X), 4), (("twice", X), 1), (("over", 2, ZERO, X), 2), (("half", ("half", ("twice", X))), 4),
            (halves(3, X), 16), (("late", ZERO, A), None), (("sum", X, ("late", ZERO, A)), 2),
        ]:
            program = one_brook(term, ("x", 2))
            if period is None:
                self.refused(program, Loose, "place", ("a", (0,)))
            else:
                self.assertEqual(look(program), [("a", period)])

    def test_of_unlike_springs(self):
        self.assertEqual(look(one_brook(("sum", ("half", X), Y), ("x", 4), ("y", 8))), [("a", 8)])
        self.assertEqual(look(one_brook(("less", X, ("twice", ("twice", Y))), ("x", 2), ("y", 8))), [("a", 2)])

    def test_brooks_in_any_order(self):
        for rows in [("brook a half b", "brook b half c", "brook c x"), ("brook c x", "brook a half b", "brook b half c")]:
            self.assertEqual(dict(look(program_of("spring x 1", *rows, "out a"))), {"a": 4, "b": 2, "c": 1})

    def test_periods_come_to_fixed_ones_from_above(self):
        self.assertEqual(look(program_of("spring x 4", "brook a sum half b x", "brook b 1", "out b")), [("a", 4), ("b", 2)])

    def test_the_round(self):
        self.assertEqual(round_of(one_brook(halves(4, X), ("x", 1))), 16)
        self.assertEqual(round_of(one_brook(X, ("x", 1), ("y", 8))), 8)
        self.assertEqual(round_of(one_brook(("twice", ("half", X)), ("x", 1))), 2)
        self.assertRaises(Round, round_of, one_brook(A))

    def test_rounds(self):
        self.assertEqual(self.ring_of(one_brook(A)), ["a"])
        self.assertEqual(self.ring_of(one_brook(("sum", X, ("half", A)))), ["a"])
        self.assertEqual(self.ring_of(one_brook(("sum", ("late", ZERO, A), A))), ["a"])
        self.assertEqual(self.ring_of(one_brook(("most", 2, ZERO, A))), ["a"])
        self.assertEqual(self.ring_of(program_of("spring x 1", "brook a x", "brook b sum a b", "out a")), ["b"])
        ring = self.ring_of(program_of(
            "spring x 1", "brook z sum a b", "brook a twice b", "brook b sum x c", "brook c half a", "out z"))
        self.assertEqual(sorted(ring), ["a", "b", "c"])

    def test_rounds_through_lates(self):
        program = program_of("spring x 2", "brook a sum x late 0 b", "brook b late 1 a", "out b")
        self.assertEqual(look(program), [("a", 2), ("b", 2)])
        program = program_of("spring x 2", "brook a sum x b", "brook b half late 1 twice a", "out b")
        self.assertEqual(look(program), [("a", 2), ("b", 2)])

    def test_clash(self):
        self.refused(one_brook(("sum", X, Y), ("x", 1), ("y", 2)), Clash, "number", 3)
        self.refused(one_brook(("sum", X, ("half", X))), Clash, "number", 4)
        self.refused(one_brook(("late", ZERO, ("half", A))), Clash, "number", 2)
        self.refused(program_of("spring x 1", "brook a sum x b", "brook b half x", "out a"), Clash, "number", 5)
        self.refused(program_of("spring x 1", "brook a late 0 twice b", "brook b late 0 a", "out a"), Clash, "number", 4)

    def test_loose(self):
        self.refused(one_brook(FIX), Loose, "place", ("a", ()))
        self.refused(one_brook(("half", ("sum", FIX, FIX))), Loose, "place", ("a", (0, 0)))
        self.refused(program_of("spring x 1", "brook a x", "brook b late 0 b", "out a"), Loose, "place", ("b", (0,)))

    def test_too_far(self):
        self.refused(one_brook(halves(5, X), ("x", 1)), TooFar, "place", ("a", ()))
        self.refused(one_brook(("twice", X), ("x", 1)), TooFar, "place", ("a", ()))
        self.refused(one_brook(("half", ("twice", X)), ("x", 1)), TooFar, "place", ("a", (0,)))
        self.refused(one_brook(halves(7, X), ("x", 1)), TooFar, "place", ("a", (0, 0)))
        self.refused(one_brook(("half", ("half", X)), ("x", 8)), TooFar, "place", ("a", ()))
        self.assertEqual(look(one_brook(halves(4, X), ("x", 1))), [("a", 16)])

    def test_of_several_the_first_told(self):
        ring = ("brook r r",)
        clash = ("brook c sum x half x",)
        loose = ("brook l 1",)
        far = ("brook f twice x",)
        for rows, kind, field, worth in [
            (far + loose + clash + ring, Round, "ring", ["r"]),
            (far + loose + clash, Clash, "number", 2 + 4),
            (far + loose, Loose, "place", ("l", ())),
            (far, TooFar, "place", ("f", ())),
        ]:
            out = "out " + rows[0].split(" ")[1]
            self.refused(program_of("spring x 1", *rows, out), kind, field, worth)

    def test_some_programs(self):
        counted = {}
        for program in some_programs(7, 3000):
            told = awaited(program)
            kind = told[0] if isinstance(told, tuple) else None
            counted[kind] = counted.get(kind, 0) + 1
            if kind is None:
                self.assertEqual(periods_of(program), told)
                self.assertEqual(look(program), [(name, dict(told)[(name, ())]) for name, term in program[1]])
            elif kind is Round:
                with self.assertRaises(Round) as caught:
                    periods_of(program)
                self.assertTrue(is_ring(program, caught.exception.ring))
            else:
                with self.assertRaises(kind) as caught:
                    periods_of(program)
                self.assertIs(type(caught.exception), kind)
                field = {Clash: "number", Loose: "place", TooFar: "place"}[kind]
                self.assertEqual(getattr(caught.exception, field), told[1])
        self.assertGreater(min(counted[kind] for kind in (None, Round, Clash, Loose, TooFar)), 50, counted)

    def test_periods_keep_the_rules(self):
        for program in some_programs(77, 500):
            try:
                periods = {"beat": 1, **dict(periods_of(program))}
            except (Round, Clash, Loose, TooFar):
                continue
            for place, other, power in rules_of(program):
                self.assertEqual(Fraction(periods[other]), periods[place] * Fraction(2) ** power)
            for (name, path), period in periods_of(program):
                part = part_at(dict(program[1])[name], path)
                if part[0] == "name" and part[1] in dict(program[0]):
                    self.assertEqual(period, dict(program[0])[part[1]])

    def test_told_programs_beyond_the_bounds(self):
        program = BIG
        for name in ("na", "nb", "nc", "nd", "ne", "nf", "ng"):
            program = with_brook(program, name, ("sum", ("name", "acc"), ("late", ZERO, ("name", name))))
        self.assertFalse(is_program(program))
        self.assertEqual(look(program)[4:], [(name, 1) for name in ("na", "nb", "nc", "nd", "ne", "nf", "ng")])
        self.assertEqual(look(without(program, "ng"))[:4], look(BIG))
        with self.assertRaises(TooFar) as caught:
            look(with_brook(BIG, "deep", halves(600, ("twice", X))))
        self.assertEqual(caught.exception.place, ("deep", (0,) * 600))

    def test_what_is_told_is_the_askers_own(self):
        for ask in (look, periods_of, rules_of):
            told = ask(BIG)
            self.assertIs(type(told), list)
            self.assertIsNot(told, ask(BIG))
            kept_as = list(told)
            told.clear()
            self.assertEqual(ask(BIG), kept_as)


if __name__ == "__main__":
    unittest.main()
