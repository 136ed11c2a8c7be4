"""PROGRAMs: what is one, their brooks and PLACEs. [2], [3], [5]"""

import unittest

from brookworks.errors import NoBrook
from brookworks.limits import KEYWORDS
from brookworks.programs import is_program, places_of, term_of, uses_of, with_brook, without
from brookworks.terms import paths_of
from tests.helpers import A, B, BIG, FIX, FORMS, THINGS, X, Y, ZERO, halves, one_brook, spoilt, wide_term

SPRINGS = (("x", 1), ("y", 1))


def brooks_of(*terms):
    return tuple(("abcdefghi"[at], term) for at, term in enumerate(terms))


def program_of(*terms):
    return (SPRINGS, brooks_of(*terms), ("a",))


class WhatIsAProgram(unittest.TestCase):
    def is_one(self, thing):
        with self.subTest(thing):
            self.assertIs(is_program(thing), True)

    def is_none(self, thing):
        with self.subTest(thing):
            self.assertIs(is_program(thing), False)

    def test_programs(self):
        self.is_one(BIG)
        for term in FORMS:
            self.is_one(one_brook(term))
        self.assertIs(is_program(thing=BIG), True)

    def test_it_need_not_be_so_that_it_can_be_looked_at(self):
        self.is_one(one_brook(A))
        self.is_one(one_brook(FIX))
        self.is_one(one_brook(("sum", X, Y), ("x", 1), ("y", 16)))

    def test_things(self):
        for thing in THINGS + FORMS + [X]:
            self.is_none(thing)

    def test_lists_and_other_lengths(self):
        springs, brooks, outs = BIG
        for thing in [
            list(BIG), BIG[:2], (*BIG, ()), (list(springs), brooks, outs), (springs, list(brooks), outs),
            (springs, brooks, list(outs)), (springs, brooks, "acc"), (springs, dict(brooks), outs),
            (([*springs[0]], springs[1]), brooks, outs), (springs, ([*brooks[0]], *brooks[1:]), outs),
            ((("x",), ("y", 2)), brooks, outs), ((("x", 1, 1), ("y", 2)), brooks, outs),
            (springs, (("acc",), *brooks[1:]), outs), (springs, ((*brooks[0], 1), *brooks[1:]), outs),
        ]:
            self.is_none(thing)

    def test_how_many_springs(self):
        brooks = brooks_of(FIX)
        self.is_none(((), brooks, ("a",)))
        self.is_one((tuple((name, 1) for name in "xyz"), brooks, ("a",)))
        self.is_none((tuple((name, 1) for name in "wxyz"), brooks, ("a",)))

    def test_how_many_brooks(self):
        self.is_none((SPRINGS, (), ("a",)))
        self.is_none((SPRINGS, (), ()))
        self.is_one(program_of(*[FIX] * 8))
        self.is_none(program_of(*[FIX] * 9))

    def test_how_many_outs(self):
        brooks = brooks_of(*[FIX] * 4)
        self.is_none((SPRINGS, brooks, ()))
        self.is_one((SPRINGS, brooks, ("d", "a", "b")))
        self.is_none((SPRINGS, brooks, ("d", "a", "b", "c")))

    def test_which_outs(self):
        for outs in [("x",), ("a", "x"), ("a", "a"), ("z",), ("",), (None,), (1,), (["a"],), (("a",),), ("a", True)]:
            self.is_none((SPRINGS, brooks_of(FIX), outs))

    def test_periods(self):
        for period in (1, 2, 4, 8, 16):
            self.is_one(one_brook(X, ("x", period)))
        for period in (0, 3, 5, 6, 12, 32, 64, -1, -2, True, False, None, "1", (1, 1), [1]):
            self.is_none(one_brook(X, ("x", period)))

    def test_names(self):
        for name in ("a", "abcdef", "name", "mill"):
            self.is_one((((name, 1),), (("q", ("name", name)),), ("q",)))
            self.is_one((SPRINGS, ((name, ("late", ZERO, ("name", name))),), (name,)))
        for name in ("", "abcdefg", "A", "a1", "a b", None, 1, ["a"], ("a",), *KEYWORDS):
            self.is_none((((name, 1),), (("q", FIX),), ("q",)))
            self.is_none((SPRINGS, ((name, FIX), ("q", FIX)), ("q",)))

    def test_names_alike(self):
        self.is_none(((("x", 1), ("x", 1)), brooks_of(FIX), ("a",)))
        self.is_none(((("x", 1), ("x", 2)), brooks_of(FIX), ("a",)))
        self.is_none((SPRINGS, (("a", FIX), ("a", FIX)), ("a",)))
        self.is_none((SPRINGS, (("a", FIX), ("x", FIX)), ("a",)))

    def test_names_in_terms(self):
        self.is_one(program_of(B, X))
        self.is_none(program_of(B))
        self.is_none(program_of(("sum", X, ("late", ZERO, ("name", "q")))))
        self.is_none(program_of(X, ("name", "q")))

    def test_bounds_of_parts(self):
        self.is_one(program_of(wide_term(60)))
        self.is_none(program_of(wide_term(61)))
        self.is_one(program_of(wide_term(30), wide_term(30)))
        self.is_none(program_of(wide_term(30), wide_term(31)))

    def test_bounds_of_depth(self):
        self.is_one(program_of(halves(7, X), halves(7, X)))
        self.is_none(program_of(halves(7, X), halves(8, X)))

    def test_bounds_of_windows(self):
        windows = [("over", k, ZERO, X) for k in (5, 5, 4, 2)]
        self.is_one(program_of(*windows))
        self.is_none(program_of(*windows[:3], ("most", 3, ZERO, X)))
        self.is_none(program_of(FIX, ("most", 6, ZERO, X)))
        self.is_none(program_of(FIX, ("most", 1, ZERO, X)))

    def test_bounds_of_numbers(self):
        self.is_one(program_of(("fixed", (1583, 16))))
        self.is_none(program_of(("fixed", (1585, 16))))
        self.is_none(program_of(("fixed", (1, 32))))

    def test_spoilt_at_any_depth(self):
        for thing in spoilt(BIG):
            self.assertIs(type(is_program(thing)), bool)


class Brooks(unittest.TestCase):
    def refused(self, name, ask):
        with self.subTest(name):
            with self.assertRaises(NoBrook) as caught:
                ask(name)
            self.assertEqual(caught.exception.name, name)
            self.assertIsInstance(caught.exception, KeyError)

    def test_term_of(self):
        for name, term in BIG[1]:
            self.assertEqual(term_of(BIG, name), term)
            self.assertEqual(term_of(name=name, program=BIG), term)

    def test_no_brook(self):
        for name in ("x", "y", "q", "", "sum", "acc "):
            self.refused(name, lambda name: term_of(BIG, name))
            self.refused(name, lambda name: uses_of(BIG, name))
            self.refused(name, lambda name: uses_of(BIG, name, now=True))
            self.refused(name, lambda name: without(BIG, name))

    def test_places_of(self):
        self.assertEqual(places_of(one_brook(("sum", X, Y))), [("a", (0,)), ("a", (1,)), ("a", ())])
        self.assertEqual(places_of(BIG), [(name, path) for name, term in BIG[1] for path in paths_of(term)])
        self.assertEqual(places_of(program=BIG)[:4], [
            ("acc", (0,)), ("acc", (1, 0)), ("acc", (1,)), ("acc", ()),
        ])

    def test_uses_of(self):
        self.assertEqual(uses_of(BIG, "acc"), ["acc", "x"])
        self.assertEqual(uses_of(BIG, "acc", now=True), ["x"])
        self.assertEqual(uses_of(BIG, "both"), ["thin", "y"])
        self.assertEqual(uses_of(BIG, "both", now=True), ["thin", "y"])
        self.assertEqual(uses_of(BIG, "thick", now=True), ["both"])
        self.assertEqual(uses_of(one_brook(FIX), "a"), [])
        self.assertEqual(uses_of(name="acc", program=BIG, now=False), ["acc", "x"])
        with self.assertRaises(TypeError):
            uses_of(BIG, "acc", True)

    def test_uses_now_are_in_no_late_at_any_depth(self):
        deep = ("late", ZERO, ("half", ("sum", ("most", 2, ZERO, Y), X)))
        for term, now in [
            (deep, []),
            (("sum", deep, X), ["x"]),
            (("sum", X, deep), ["x"]),
            (("half", ("by", ZERO, deep)), []),
            (("pick", deep, ("over", 2, ZERO, Y), deep), ["y"]),
            (("late", ZERO, ("late", ZERO, X)), []),
            (A, ["a"]),
        ]:
            self.assertEqual(uses_of(one_brook(term), "a", now=True), now)

    def test_with_brook(self):
        self.assertEqual(with_brook(BIG, "thin", X), (BIG[0], (BIG[1][0], ("thin", X), *BIG[1][2:]), BIG[2]))
        self.assertEqual(with_brook(BIG, "new", X), (BIG[0], (*BIG[1], ("new", X)), BIG[2]))
        self.assertEqual(with_brook(term=FIX, name="a", program=one_brook(X)), one_brook(FIX))
        self.assertEqual(with_brook(BIG, "thin", term_of(BIG, "thin")), BIG)

    def test_without(self):
        self.assertEqual(without(BIG, "thin"), (BIG[0], (BIG[1][0], *BIG[1][2:]), BIG[2]))
        self.assertEqual(without(BIG, "thick"), (BIG[0], BIG[1][:3], ("acc", "both")))
        self.assertEqual(without(name="a", program=one_brook(X)), (SPRINGS, (), ()))

    def test_what_comes_need_not_be_a_program(self):
        program = BIG
        for at in range(20):
            program = with_brook(program, "n" + "abcdefghijklmnopqrst"[at], ("most", 5, ZERO, halves(7, X)))
        self.assertEqual(len(program[1]), 24)
        self.assertIs(is_program(program), False)
        self.assertEqual(len(places_of(program)), len(places_of(BIG)) + 20 * 9)
        self.assertEqual(uses_of(program, "nt"), ["x"])
        for at in range(20):
            program = without(program, "n" + "abcdefghijklmnopqrst"[at])
        self.assertEqual(program, BIG)
        self.assertIs(is_program(without(BIG, "acc")), False)

    def test_what_is_told_is_the_askers_own(self):
        for ask in (lambda: places_of(BIG), lambda: uses_of(BIG, "both"), lambda: uses_of(BIG, "both", now=True)):
            told = ask()
            self.assertIs(type(told), list)
            self.assertIsNot(told, ask())
            kept = list(told)
            told.clear()
            self.assertEqual(ask(), kept)


if __name__ == "__main__":
    unittest.main()
