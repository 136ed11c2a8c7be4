"""A mill: programs worked on while they run. [19] [20]"""

import random
import unittest

from brookworks.errors import (
    BadDeed, BadName, BadNumbers, BadTerm, Clash, Dry, IsOut, LastOut, Loose, NoBrook, NoName, NoSpring, NotNow,
    NotOut, Round, TooBig, TooFar, Used,
)
from brookworks.graphs import graph_of
from brookworks.looks import look
from brookworks.mill import Mill
from brookworks.streams import Streams
from brookworks.texts import term_in
from tests.helpers import A, BIG, FIX, HALF, ONE, X, Y, ZERO, halves, one_brook, program_of, wide_term, whole
from tests.mills import Refused, Shadow, round_of, some_deed
from tests.oracle import as_number, check_refused_as_look_is, some_good_programs
from tests.spoiling import ODD

ACC = program_of("spring x 1", "brook a sum x late 0 a", "out a")
TWO = program_of("spring x 1", "spring y 2", "brook a x", "brook b late 0 a", "brook c half b", "out b", "out c")
NO_TEXTS = [None, True, False, 0, -1, [], (), ["x"], ("x",), [["a"]], (None, "a"), [[], {}.get("a")]]


def told_of(mill):
    """All that a mill tells of itself."""
    return (
        mill.program(), mill.beat(), mill.kept(), [(name, mill.left(name)) for name, _ in mill.program()[0]], mill.periods(),
        mill.round_now(), mill.told(), mill.graph(), mill.deeds(), mill.busy(),
    )


def sums(parts):
    """A TERM of so many parts, an odd number, of period 1."""
    left = (parts - 1) // 2 | 1
    return X if parts == 1 else ("sum", sums(left), sums(parts - 1 - left))


class Check(unittest.TestCase):
    def refused(self, kind, mill, ask, **fields):
        """Refused so, and all is as it was."""
        ahead, log = told_of(mill), mill.log()
        with self.assertRaises(kind) as caught:
            ask()
        self.assertIs(type(caught.exception), kind)
        self.assertEqual(vars(caught.exception), fields)
        self.assertEqual((told_of(mill), mill.log()), (ahead, log))

    def fed(self, program, **given):
        mill = Mill(program)
        for name, numbers in given.items():
            mill.feed(name, whole(*numbers))
        return mill


class Deeds(Check):
    def test_refused_as_look_is(self):
        check_refused_as_look_is(self, 601, Mill)

    def test_goes_as_streams(self):
        mill = self.fed(BIG, x=range(1, 13), y=range(1, 7))
        streams = Streams(BIG)
        streams.feed("x", whole(*range(1, 13)))
        streams.feed("y", whole(*range(1, 7)))
        awaited = []
        for beats in (1, 3, 8):
            at = streams.beat()
            rows = streams.run(beats)
            self.assertEqual(mill.go(beats=beats) if beats > 1 else mill.go(), rows)
            awaited += [(at + more, name, number) for more, row in enumerate(rows) for name, number in row]
            self.assertEqual((mill.beat(), mill.kept(), mill.left("x")), (streams.beat(), streams.kept(), streams.left("x")))
        self.assertEqual(mill.told(), awaited)
        self.assertEqual(mill.told(first=5), awaited[5:])
        self.assertEqual(mill.told(first=len(awaited)), [])
        self.assertEqual(mill.told(first=len(awaited) - 1), awaited[-1:])
        self.assertEqual(mill.told(first=0), awaited)
        self.assertEqual(mill.deeds(), 5)
        self.assertEqual((mill.program(), mill.periods(), mill.round_now(), mill.graph()), (BIG, look(BIG), 2, graph_of(BIG)))

    def test_feed(self):
        mill = Mill(TWO)
        self.assertIsNone(mill.feed("x", whole(1, 2)))
        self.assertIsNone(mill.feed(name="x", numbers=[(999, 1), (-999, 1), (1, 64), (63935, 64)]))
        self.assertEqual(mill.left("x"), [ONE, (2, 1), (999, 1), (-999, 1), (1, 64), (63935, 64)])
        self.assertEqual(mill.left(name="y"), [])
        mill.feed("y", whole(*range(64)))
        mill.feed("y", whole(1))
        self.assertEqual(len(mill.left("y")), 65)
        for name in ["a", "z", "", "sum", *NO_TEXTS]:
            for numbers in (whole(1), [], None):
                self.refused(NoSpring, mill, lambda: mill.feed(name, numbers), name=name)
            self.refused(NoSpring, mill, lambda: mill.left(name), name=name)
        for thing in [
            [], whole(*range(65)), (ONE,), tuple(whole(1, 2)), [ONE, None], [(1000, 1)], [(-1000, 1)], [(1, 128)], [(2, 2)],
            [(True, 1)], [(1, True)], [[1, 1]], [1], [ONE, (63937, 64)], [ONE, (-63937, 64)], [(1, 3)], [(1, 0)], [[ONE]],
            "1", {}.get("a"), [(0, 2)], [ONE] * 200, *[thing for thing in ODD if thing != [ZERO]],
        ]:
            self.refused(BadNumbers, mill, lambda: mill.feed("x", thing), thing=thing)

    def test_lists_that_are_fed_are_not_kept(self):
        mill = Mill(ACC)
        numbers = whole(1, 2)
        mill.feed("x", numbers)
        numbers.clear()
        self.assertEqual(mill.left("x"), whole(1, 2))

    def test_go(self):
        mill = self.fed(TWO, x=range(64), y=[1])
        mill.feed("x", whole(*range(6)))
        self.refused(Dry, mill, lambda: mill.go(beats=3), name="y")
        self.assertEqual(len(mill.go(beats=2)), 2)
        self.refused(Dry, mill, lambda: mill.go(beats=64), name="y")
        mill.feed("y", whole(*range(40)))
        self.assertEqual(len(mill.go(beats=64)), 64)
        self.refused(Dry, mill, lambda: mill.go(beats=5), name="x")
        self.assertRaises(TypeError, lambda: mill.go(1))
        self.assertEqual(len(mill.go(beats=4)), 4)
        self.refused(Dry, mill, mill.go, name="x")

    def test_put_exchanges(self):
        mill = self.fed(ACC, x=[1, 2, 3, 4, 5, 6])
        mill.go(beats=2)
        self.assertIsNone(mill.put("a", term_in("sum x late 10 a")))
        self.assertEqual(mill.program(), one_brook(term_in("sum x late 10 a"), ("x", 1)))
        self.assertEqual(mill.kept(), [(("a", (1,)), ((10, 1),))])
        self.assertEqual(mill.go(beats=2), [[("a", (13, 1))], [("a", (17, 1))]])
        self.assertIsNone(mill.put(name="a", term=term_in("sum x late 99 a"), keep=True))
        self.assertEqual(mill.kept(), [(("a", (1,)), ((17, 1),))])
        self.assertEqual(mill.go(beats=1), [[("a", (22, 1))]])
        self.assertEqual(mill.beat(), 5)
        mill.put("a", X, keep=False)
        self.assertEqual((mill.kept(), mill.go()), ([], [[("a", (6, 1))]]))
        self.assertRaises(TypeError, lambda: mill.put("a", X, True))

    def test_put_of_a_new_brook(self):
        mill = self.fed(ACC, x=range(8))
        mill.go(beats=3)
        mill.put("b", term_in("sum a late 1/2 b"), keep=True)
        self.assertEqual([name for name, _ in mill.program()[1]], ["a", "b"])
        self.assertEqual(mill.program()[2], ("a",))
        self.assertEqual(mill.kept(), [(("a", (1,)), ((3, 1),)), (("b", (1,)), (HALF,))])
        mill.show("b")
        self.assertEqual(mill.go(), [[("a", (6, 1)), ("b", (13, 2))]])

    def test_put_keeps_windows_of_one_length(self):
        for ahead, behind, keeps in [
            ("most 3 0 x", "most 3 9 x", True), ("most 3 0 x", "most 2 9 x", False), ("most 3 0 x", "least 3 9 x", False),
            ("over 3 0 x", "over 3 9 by 2 x", True), ("least 3 0 x", "late 9 x", False), ("most 3 0 x", "over 3 9 x", False),
            ("least 3 0 x", "least 3 9 x", True), ("late 0 x", "late 9 x", True), ("late 0 x", "most 2 9 x", False),
            ("most 2 0 x", "late 9 x", False), ("over 3 0 x", "sum over 3 9 x x", False), ("over 3 0 x", "over 4 9 x", False),
        ]:
            for keep in (True, False):
                mill = self.fed(one_brook(term_in(ahead), ("x", 1)), x=[1, 2, 3, 4, 5])
                mill.go(beats=3)
                kept = mill.kept()
                mill.put("a", term_in(behind), keep=keep)
                fresh = Streams(mill.program()).kept()
                self.assertEqual(mill.kept(), kept if keep and keeps else fresh, (ahead, behind, keep))
                self.assertNotEqual(fresh, kept)

    def test_put_keeps_path_by_path(self):
        mill = self.fed(one_brook(term_in("sum late 0 x over 3 0 late 0 x"), ("x", 1)), x=[1, 2, 3, 4])
        mill.go(beats=3)
        self.assertEqual(mill.kept(), [(("a", (0,)), ((3, 1),)), (("a", (1, 0)), ((3, 1),)), (("a", (1,)), tuple(whole(1, 2)))])
        mill.put("a", term_in("less late 7 by 2 x over 3 7 less late 7 x late 7 x"), keep=True)
        self.assertEqual(mill.kept(), [
            (("a", (0,)), ((3, 1),)), (("a", (1, 0, 0)), ((7, 1),)), (("a", (1, 0, 1)), ((7, 1),)), (("a", (1,)), tuple(whole(1, 2)))])
        mill.put("a", term_in("late 5 less late 7 x x"), keep=True)
        self.assertEqual(mill.kept(), [(("a", (0, 0)), ((7, 1),)), (("a", ()), ((5, 1),))])

    def test_put_leaves_what_others_keep(self):
        program = program_of("spring x 1", "brook a sum x late 0 a", "brook b over 3 0 a", "brook c late 5 b", "out b", "out c")
        mill = self.fed(program, x=range(1, 9))
        mill.go(beats=4)
        kept = [pair for pair in mill.kept() if pair[0][0] != "a"]
        mill.put("a", term_in("late 99 x"))
        self.assertEqual([pair for pair in mill.kept() if pair[0][0] != "a"], kept)
        # b's window still has what a told ahead: 6 and 10.
        self.assertEqual(mill.go(beats=2), [[("b", (115, 1)), ("c", (19, 1))], [("b", (114, 1)), ("c", (115, 1))]])

    def test_what_uses_nothing_that_was_put_goes_on(self):
        program = program_of("spring x 1", "brook a sum x late 0 a", "brook b late 1 x", "brook c over 4 0 b", "out c", "out a")
        one, other = self.fed(program, x=range(20)), self.fed(program, x=range(20))
        for mill in (one, other):
            mill.go(beats=6)
        one.put("a", term_in("less x late 3 a"))
        one.put("d", term_in("half sum a c"))
        one.put("a", term_in("late 0 twice d"))
        rows, awaited = one.go(beats=2), other.go(beats=2)
        self.assertEqual([row[:1] for row in rows], [row[:1] for row in awaited])

    def test_periods_that_come_to_be_others(self):
        # c's late keeps its number, though its period comes to be another one.
        program = program_of("spring x 1", "brook a x", "brook c late 5 a", "out c")
        mill = self.fed(program, x=range(1, 20))
        mill.go(beats=4)
        self.assertEqual(mill.kept(), [(("c", ()), ((4, 1),))])
        mill.put("a", term_in("half x"))
        self.assertEqual((mill.kept(), mill.periods(), mill.round_now()), ([(("c", ()), ((4, 1),))], [("a", 2), ("c", 2)], 2))
        self.assertEqual(mill.go(beats=4), [[("c", (4, 1))], [], [("c", (5, 1))], []])
        mill.put("a", X)
        self.assertEqual(mill.periods(), [("a", 1), ("c", 1)])
        self.assertEqual(mill.go(beats=2), [[("c", (7, 1))], [("c", (9, 1))]])

    def test_put_refused_by_name(self):
        mill = Mill(TWO)
        for name in ["x", "y", "sum", "beat", "", "toolong", "A", "a1", "a b", *NO_TEXTS]:
            for term in (X, None, ("name", "q"), ("name", "")):
                self.refused(BadName, mill, lambda: mill.put(name, term), name=name)
                self.refused(BadName, mill, lambda: mill.put(name, term, keep=True), name=name)

    def test_put_refused_by_term(self):
        mill = Mill(TWO)
        for thing in [*ODD, ("sum", X), ["name", "x"], ("name", "sum"), ("late", (100, 1), X), ("late", (1, 32), X), ("most", 6, ZERO, X),
                      ("most", True, ZERO, X), halves(8, X), wide_term(61), ("over", 5, ZERO, ("over", 5, ZERO, ("over", 5, ZERO, (
                          "over", 2, ZERO, X)))), [("sum", ("name", "q"), X)]]:
            for name in ("a", "new"):
                self.refused(BadTerm, mill, lambda: mill.put(name, thing), thing=thing)

    def test_put_refused_by_names_in_it(self):
        mill = Mill(TWO)
        self.refused(NoName, mill, lambda: mill.put("a", ("sum", ("name", "zz"), ("name", "p"))), name="p")
        self.refused(NoName, mill, lambda: mill.put("new", ("sum", ("name", "new"), ("name", "newer"))), name="newer")
        self.refused(NoName, mill, lambda: mill.put("a", ("name", "new")), name="new")
        # Ahead of all that's behind: too big, round, clash, not now.
        mill.feed("x", whole(1))
        mill.feed("y", whole(1))
        mill.go()
        self.refused(NoName, mill, lambda: mill.put("a", ("sum", ("name", "z"), ("sum", X, ("half", A)))), name="z")
        self.refused(NoName, mill, lambda: mill.put("a", ("sum", ("name", "z"), sums(57))), name="z")

    def test_put_refused_as_too_big(self):
        mill = Mill(program_of("spring x 1", *[f"brook {name} x" for name in "abcdefgh"], "out a"))
        self.refused(TooBig, mill, lambda: mill.put("i", X))
        self.refused(TooBig, mill, lambda: mill.put("i", ("name", "i")))
        mill.put("h", sums(53))
        self.refused(TooBig, mill, lambda: mill.put("g", ("sum", X, X)))
        mill.drop("h")
        mill.put("h", ("late", ZERO, sums(51)))
        mill.put("g", ("late", ZERO, X))
        self.refused(TooBig, mill, lambda: mill.put("g", ("late", ZERO, ("late", ZERO, X))))
        mill = Mill(program_of("spring x 1", "brook a over 5 0 over 5 0 x", "brook b x", "out a"))
        self.refused(TooBig, mill, lambda: mill.put("b", term_in("over 5 0 over 2 0 x")))
        mill.put("b", term_in("over 4 0 over 2 0 x"))
        # Ahead of what look refuses.
        self.refused(TooBig, mill, lambda: mill.put("c", term_in("over 2 0 c")))

    def test_put_refused_as_look_is(self):
        mill = Mill(TWO)
        with self.assertRaises(Round) as caught:
            mill.put("a", ("name", "a"))
        self.assertEqual(caught.exception.ring, ["a"])
        self.refused(Clash, mill, lambda: mill.put("a", ("sum", X, Y)), number=3)
        self.refused(Clash, mill, lambda: mill.put("a", ("sum", X, ("half", X))), number=4)
        self.refused(Loose, mill, lambda: mill.put("d", FIX), place=("d", ()))
        self.refused(TooFar, mill, lambda: mill.put("d", ("twice", X)), place=("d", ()))
        self.assertEqual((mill.program(), mill.deeds()), (TWO, 0))

    def test_put_refused_at_a_beat(self):
        mill = self.fed(TWO, x=range(20), y=range(10))
        mill.put("a", ("late", ONE, X))
        mill.go()
        # By the ROUND ahead.
        self.refused(NotNow, mill, lambda: mill.put("a", X), at=1)
        self.refused(NotNow, mill, lambda: mill.put("new", X), at=1)
        # Ahead of that as look is.
        self.refused(Loose, mill, lambda: mill.put("new", FIX), place=("new", ()))
        mill.go()
        mill.put("a", X)
        # By the ROUND that comes.
        self.refused(NotNow, mill, lambda: mill.put("new", term_in("half half x")), at=2)
        self.refused(NotNow, mill, lambda: mill.put("new", term_in("late 0 half half x")), at=2)
        mill.go(beats=2)
        mill.put("new", term_in("half half x"))
        self.assertEqual(mill.round_now(), 4)
        mill.go(beats=2)
        # The ROUND ahead, though what comes would do.
        self.refused(NotNow, mill, lambda: mill.put("new", X), at=6)
        mill.go(beats=2)
        mill.put("new", X)
        self.assertEqual((mill.beat(), mill.round_now()), (8, 2))

    def test_springs_are_of_the_round(self):
        mill = self.fed(program_of("spring x 1", "spring y 4", "brook a x", "out a"), x=range(8), y=range(8))
        self.assertEqual(mill.round_now(), 4)
        mill.go()
        self.refused(NotNow, mill, lambda: mill.put("a", ("late", ONE, X)), at=1)
        mill.go(beats=3)
        mill.put("a", ("late", ONE, X))

    def test_drop(self):
        program = program_of("spring x 1", "brook a x", "brook b late 0 a", "brook c late 0 c", "brook d sum a c", "out b", "out d")
        mill = self.fed(program, x=range(9))
        mill.go(beats=2)
        self.refused(Used, mill, lambda: mill.drop("a"), other="b")
        self.refused(Used, mill, lambda: mill.drop("c"), other="d")
        for name in ["x", "q", "", *NO_TEXTS]:
            self.refused(NoBrook, mill, lambda: mill.drop(name), name=name)
        self.assertIsNone(mill.drop(name="b"))
        self.assertEqual(mill.program()[2], ("d",))
        self.assertEqual(mill.kept(), [(("c", ()), (ZERO,))])
        self.refused(LastOut, mill, lambda: mill.drop("d"), name="d")
        # Ahead of the last out is what's used.
        mill.put("e", ("name", "d"))
        self.refused(Used, mill, lambda: mill.drop("d"), other="e")
        self.assertEqual(mill.go(), [[("d", (2, 1))]])

    def test_drop_refused_as_look_is(self):
        # b alone ties c's period.
        program = program_of("spring x 1", "brook a x", "brook c late 0 c", "brook b sum x c", "out a")
        mill = self.fed(program, x=range(9))
        self.refused(Loose, mill, lambda: mill.drop("b"), place=("c", (0,)))
        self.refused(Used, mill, lambda: mill.drop("c"), other="b")

    def test_drop_at_a_beat(self):
        program = program_of("spring x 1", "brook a x", "brook b half half x", "out a", "out b")
        mill = self.fed(program, x=range(9))
        mill.go()
        self.refused(NotNow, mill, lambda: mill.drop("b"), at=1)
        self.refused(LastOut, self.hidden(mill), lambda: mill.drop("a"), name="a")
        mill.go(beats=3)
        mill.drop("b")
        self.assertEqual((mill.round_now(), mill.program()), (1, one_brook(X, ("x", 1))))

    def hidden(self, mill):
        mill.hide("b")
        return mill

    def test_a_brook_that_uses_itself_is_not_used(self):
        mill = self.fed(program_of("spring x 1", "brook a sum x late 0 a", "brook b x", "out b"), x=range(3))
        mill.drop("a")
        self.assertEqual(mill.program(), program_of("spring x 1", "brook b x", "out b"))

    def test_show_and_hide(self):
        program = program_of("spring x 1", *[f"brook {name} by {at} x" for at, name in enumerate("abcd")], "out b")
        mill = self.fed(program, x=range(1, 9))
        mill.go()
        self.assertIsNone(mill.show("d"))
        self.assertIsNone(mill.show(name="a"))
        self.assertEqual(mill.program()[2], ("b", "d", "a"))
        self.assertEqual(mill.go(), [[("b", (2, 1)), ("d", (6, 1)), ("a", ZERO)]])
        for name in ("a", "b", "d"):
            self.refused(IsOut, mill, lambda: mill.show(name), name=name)
        self.refused(TooBig, mill, lambda: mill.show("c"))
        for name in ["x", "q", "", *NO_TEXTS]:
            self.refused(NoBrook, mill, lambda: mill.show(name), name=name)
        for name in ["c", "x", "q", "", *NO_TEXTS]:
            self.refused(NotOut, mill, lambda: mill.hide(name), name=name)
        self.assertIsNone(mill.hide("b"))
        self.assertIsNone(mill.hide(name="d"))
        self.refused(LastOut, mill, lambda: mill.hide("a"), name="a")
        self.refused(NotOut, mill, lambda: mill.hide("d"), name="d")
        mill.show("b")
        self.assertEqual(mill.program()[2], ("a", "b"))
        self.assertEqual(mill.told(), [
            (0, "b", ONE), (1, "b", (2, 1)), (1, "d", (6, 1)), (1, "a", ZERO)])

    def test_show_at_any_beat(self):
        mill = self.fed(BIG, x=range(9), y=range(9))
        mill.go()
        kept = mill.kept()
        mill.hide("acc")
        mill.show("thin")
        self.assertEqual((mill.beat(), mill.kept()), (1, kept))
        self.assertEqual(mill.go(), [[("thick", ZERO)]])


class Undo(Check):
    def test_nothing_to_undo(self):
        mill = Mill(ACC)
        self.assertIs(mill.undo(), False)
        mill.feed("x", whole(1))
        self.assertIs(mill.undo(), True)
        self.assertIs(mill.undo(), False)
        self.assertEqual(told_of(mill), told_of(Mill(ACC)))

    def test_each_deed_is_undone(self):
        mill = self.fed(BIG, x=range(30), y=range(30))
        mill.go(beats=4)
        for ask in [
            lambda: mill.feed("x", whole(5)), mill.go, lambda: mill.go(beats=9), lambda: mill.put("acc", X),
            lambda: mill.put("acc", term_in("sum late 1 x late 0 acc"), keep=True), lambda: mill.put("new", term_in("late 0 x")),
            lambda: mill.show("thin") if len(mill.program()[2]) < 3 else mill.hide("both"), lambda: mill.hide("acc"),
        ]:
            ahead = told_of(mill)
            log = mill.log()
            ask()
            self.assertNotEqual(told_of(mill), ahead)
            self.assertEqual(mill.deeds(), ahead[-2] + 1)
            self.assertIs(mill.undo(), True)
            self.assertEqual((told_of(mill), mill.log()), (ahead, log))
        mill.put("new", X)
        ahead = told_of(mill)
        mill.drop("new")
        self.assertIs(mill.undo(), True)
        self.assertEqual(told_of(mill), ahead)

    def test_refused_ones_are_not_undone(self):
        mill = self.fed(ACC, x=[1, 2])
        mill.go()
        self.assertRaises(Dry, lambda: mill.go(beats=2))
        self.assertRaises(NoBrook, lambda: mill.drop("q"))
        self.assertIs(mill.undo(), True)
        self.assertEqual((mill.beat(), mill.told(), mill.left("x")), (0, [], whole(1, 2)))
        self.assertEqual(mill.deeds(), 1)

    def test_what_goes_on_behind_an_undo(self):
        mill = self.fed(ACC, x=[1, 2, 3, 4])
        mill.go(beats=2)
        mill.go(beats=2)
        mill.undo()
        mill.put("a", term_in("late 0 x"))
        self.assertEqual(mill.go(beats=2), [[("a", ZERO)], [("a", (3, 1))]])
        self.assertEqual(mill.told(), [(0, "a", ONE), (1, "a", (3, 1)), (2, "a", ZERO), (3, "a", (3, 1))])


class Twins(Check):
    def test_twin(self):
        mill = self.fed(BIG, x=range(30), y=range(30))
        mill.do([("go", 4), ("put", "acc", term_in("sum late 0 x late 0 acc"), True)])
        twin = mill.twin()
        self.assertIs(type(twin), Mill)
        self.assertEqual((twin.log(), mill.log()), ([], [("in", 1), ("out", 1)]))
        self.assertEqual(told_of(twin), told_of(mill))
        self.assertTrue(twin == mill)
        self.assertFalse(twin != mill)
        ahead = told_of(mill)
        rows = twin.go(beats=3)
        twin.feed("x", whole(1))
        self.assertEqual(told_of(mill), ahead)
        self.assertFalse(twin == mill)
        self.assertEqual(mill.go(beats=3), rows)
        self.assertEqual((twin.deeds(), mill.deeds()), (6, 5))
        for _ in range(6):
            self.assertIs(twin.undo(), True)
        self.assertIs(twin.undo(), False)
        self.assertEqual(mill.deeds(), 5)
        self.assertEqual(told_of(twin), told_of(Mill(BIG)))

    def test_equal(self):
        mill = self.fed(ACC, x=[1, 2])
        self.assertEqual(mill, self.fed(ACC, x=[1, 2]))
        split = self.fed(ACC, x=[1])
        split.feed("x", whole(2))
        # How it came, what can be undone, and the log don't matter.
        split.do([])
        self.assertEqual(mill, split)
        self.assertNotEqual(mill, self.fed(ACC, x=[1]))
        self.assertNotEqual(mill, self.fed(one_brook(X, ("x", 1)), x=[1, 2]))
        for other in (None, ACC, 0, "mill", Streams(ACC)):
            self.assertTrue(mill != other)
            self.assertFalse(mill == other)
            self.assertFalse(other == mill)
        mill.go()
        self.assertNotEqual(mill, self.fed(ACC, x=[2]))
        # All the same but what was told.
        one, other = self.fed(one_brook(X, ("x", 1)), x=[1, 5]), self.fed(one_brook(X, ("x", 1)), x=[2, 5])
        one.go()
        other.go()
        self.assertEqual((one.program(), one.beat(), one.kept(), one.left("x")), (other.program(), other.beat(), other.kept(), other.left("x")))
        self.assertNotEqual(one, other)
        # All the same but what's kept.
        one, other = self.fed(ACC, x=[1, 5]), self.fed(ACC, x=[1, 5])
        one.go()
        other.go()
        one.put("a", term_in("sum x late 0 a"))
        self.assertNotEqual(one, other)
        one.undo()
        self.assertEqual(one, other)
        # All but the beat.
        still = one_brook(("half", X), ("x", 1))
        one = self.fed(still, x=[1])
        two = self.fed(still, x=[1, 2])
        one.go()
        two.go(beats=2)
        self.assertEqual((one.told(), one.left("x")), (two.told(), two.left("x")))
        self.assertNotEqual(one, two)

    def test_told_lists_are_the_askers_own(self):
        mill = self.fed(ACC, x=[1, 2, 3])
        mill.do([("go", 2)])
        ahead, log = told_of(mill), mill.log()
        for ask in (mill.told, mill.kept, mill.periods, mill.log, lambda: mill.left("x"), lambda: mill.told(first=1)):
            told = ask()
            self.assertEqual(ask(), told)
            self.assertIsNot(ask(), told)
            told.append(None)
            told.reverse()
        rows = mill.go()
        rows[0].clear()
        rows.clear()
        mill.undo()
        self.assertEqual((told_of(mill), mill.log()), (ahead, log))


class Rows(Check):
    def refused_with(self, kind, ask, **fields):
        with self.assertRaises(kind) as caught:
            ask()
        self.assertIs(type(caught.exception), kind)
        self.assertEqual(vars(caught.exception), fields)

    def test_each_word(self):
        mill = Mill(ACC)
        told = mill.do([
            ("feed", "x", whole(1, 2, 3, 4)), ("go", 2), ("put", "a", term_in("sum x late 9 a"), True), ("go", 1), ("put", "b", X, False),
            ("show", "b"), ("hide", "a"), ("go", 1), ("undo",), ("undo",), ("do", [("undo",), ("drop", "b"), ("go", 1)], False),
        ])
        self.assertEqual(told, [
            None, [[("a", ONE)], [("a", (3, 1))]], None, [[("a", (6, 1))]], None, None, None, [[("b", (4, 1))]], True, True,
            [True, None, [[("a", (10, 1))]]]])
        self.assertEqual(mill.program(), one_brook(term_in("sum x late 9 a"), ("x", 1)))
        self.assertEqual(mill.deeds(), 7)
        self.assertEqual(mill.log(), [("in", 1), ("in", 2), ("out", 2), ("out", 1)])
        self.assertEqual(mill.busy(), 0)
        for _ in range(7):
            self.assertIs(mill.undo(), True)
        self.assertEqual(told_of(mill), told_of(Mill(ACC)))
        self.assertEqual(len(mill.log()), 4)
        self.assertEqual(mill.do([]), [])
        self.assertEqual(mill.do(deeds=[("undo",)], whole=False), [False])
        self.assertRaises(TypeError, lambda: mill.do([], True))

    def test_each_deed_of_a_row_is_undone_by_itself(self):
        mill = Mill(ACC)
        mill.do([("feed", "x", whole(1, 2)), ("do", [("go", 1), ("do", [("go", 1)], True)], True)])
        self.assertEqual(mill.deeds(), 3)
        mill.undo()
        self.assertEqual((mill.beat(), mill.deeds()), (1, 2))

    def test_whole_rows_that_are_refused(self):
        mill = self.fed(ACC, x=[1, 2, 3])
        mill.go()
        for deeds, kind, fields in [
            ([("drop", "q")], NoBrook, {"name": "q"}),
            ([("go", 2), ("go", 1)], Dry, {"name": "x"}),
            ([("undo",), ("undo",), ("undo",), ("go", 1)], Dry, {"name": "x"}),
            ([("put", "b", X, False), ("show", "b"), ("show", "b")], IsOut, {"name": "b"}),
            ([("do", [("go", 1), ("hide", "a")], True), ("go", 1)], LastOut, {"name": "a"}),
            ([("do", [("go", 1), ("hide", "a")], False), ("go", 1)], LastOut, {"name": "a"}),
            ([("go", 1), ("do", [("do", [("undo",), ("feed", "x", [])], False)], False)], BadNumbers, {"thing": []}),
            ([("feed", "x", whole(9)), ("put", "a", ("sum",), True), ("go", 1)], BadTerm, {"thing": ("sum",)}),
        ]:
            ahead, log = told_of(mill), mill.log()
            for whole_ in (True, None):
                self.refused_with(kind, lambda: mill.do(deeds) if whole_ is None else mill.do(deeds, whole=True), **fields)
                self.assertEqual(told_of(mill), ahead)
            self.assertGreater(len(mill.log()), len(log))
            self.assertEqual(mill.log()[:len(log)], log)
        self.assertIs(mill.undo(), True)
        self.assertEqual((mill.beat(), mill.left("x")), (0, whole(1, 2, 3)))

    def test_rows_in_part(self):
        mill = self.fed(ACC, x=[1, 2, 3])
        self.refused_with(Dry, lambda: mill.do([("go", 1), ("go", 1), ("go", 2), ("go", 1)], whole=False), name="x")
        self.assertEqual((mill.beat(), mill.deeds()), (2, 3))
        # What's within and whole leaves nothing, what's around and in part stays.
        self.refused_with(NoBrook, lambda: mill.do(
            [("feed", "x", whole(4)), ("do", [("go", 2), ("drop", "q")], True), ("go", 1)], whole=False), name="q")
        self.assertEqual((mill.beat(), mill.deeds(), mill.left("x")), (2, 4, whole(3, 4)))
        # What's within and in part stays, where what's around does.
        self.refused_with(NoBrook, lambda: mill.do([("do", [("go", 1), ("drop", "q")], False)], whole=False), name="q")
        self.assertEqual((mill.beat(), mill.deeds(), mill.left("x")), (3, 5, whole(4)))
        self.refused_with(NoBrook, lambda: mill.do([("undo",), ("undo",), ("drop", "q")], whole=False), name="q")
        self.assertEqual((mill.beat(), mill.deeds(), mill.left("x")), (2, 3, whole(3)))

    def test_log_has_both_ends(self):
        mill = Mill(ACC)
        self.assertRaises(NoBrook, lambda: mill.do([("do", [("do", [("drop", "q")], True)], False), ("do", [], True)]))
        self.assertEqual(mill.log(), [("in", 1), ("in", 2), ("in", 3), ("out", 3), ("out", 2), ("out", 1)])
        self.assertEqual(mill.busy(), 0)
        mill.do([("do", [], True), ("do", [], False)])
        self.assertEqual(mill.log()[6:], [("in", 1), ("in", 2), ("out", 2), ("in", 2), ("out", 2), ("out", 1)])
        mill.undo()
        self.assertEqual(len(mill.log()), 12)
        self.refused(BadDeed, mill, lambda: mill.do([("do", [], True), ("gone",)]), number=1)
        self.assertRaises(Dry, lambda: mill.do([("go", 1)], whole=False))
        self.assertEqual(mill.log()[12:], [("in", 1), ("out", 1)])

    def refused_at(self, number, mill, deeds):
        """Refused with that place, whole or not."""
        self.refused(BadDeed, mill, lambda: mill.do(deeds), number=number)
        self.refused(BadDeed, mill, lambda: mill.do(deeds, whole=False), number=number)

    def test_bad_deeds(self):
        mill = self.fed(ACC, x=[1, 2, 3])
        good = [("feed", "x", whole(1)), ("go", 64), ("put", "a", X, False), ("drop", None), ("show", []), ("hide", ""), ("undo",),
                ("do", [], True), ("feed", None, None)]
        bad = [
            *ODD, (), ("feed",), ("feed", "x"), ("feed", "x", whole(1), 1), ("go",), ("go", 0), ("go", 65), ("go", True), ("go", "1"),
            ("go", 1, 1), ("go", -1), ("go", None), ("go", ONE), ("put", "a", X), ("put", "a", X, 1), ("put", "a", X, None), ("put", "a"),
            ("put", "a", X, True, True), ("drop",), ("drop", "a", "b"), ("show",), ("hide",), ("show", "a", 1), ("undo", 1), ("undo", None),
            ["undo"], ("do",), ("do", []), ("do", [], 0), ("do", (), True), ("do", None, True), ("do", [], True, True), ("Go", 1),
            ("",), (None,), (["go"], 1), ("step", 1), ("do", "ab", True), (("go", 1),), "undo", ("like",), (1, 2), ("run", 1), ("do", [], 1),
        ]
        for thing in bad:
            if type(thing) is tuple and thing and thing[0] == "a":
                self.assertNotIn(thing, good)
            for at in (0, 3, len(good)):
                deeds = good[:at] + [thing] + good[at:]
                self.refused_at(at, mill, deeds)
            self.refused_at(1, mill, [("undo",), thing, thing, ("go", 99)])
            self.refused_at(1, mill, [("undo",), ("do", [("undo",), ("undo",), thing], True), thing])

    def test_bad_deeds_within(self):
        # The place is told in the list handed in: of the outermost do in which it stands.
        mill = self.fed(ACC, x=[1, 2, 3])
        undo = ("undo",)
        self.refused_at(2, mill, [undo, undo, ("do", [undo, 3], True)])
        self.refused_at(1, mill, [undo, ("do", [("do", [("go", 99)], True)], False)])
        self.refused_at(0, mill, [("do", [["undo"]], False), ("go", 0)])
        self.refused_at(1, mill, [undo, ("do", [("go", 0)], True)])
        self.refused_at(0, mill, [("do", [undo, undo, ("gone",)], True), ("go", 0)])
        self.refused_at(0, mill, [("do", [undo, ("do", [undo, undo, undo, 0], True)], True)])
        good, bad = ("do", [undo, ("do", [undo], True)], True), ("do", [undo, undo, ("do", [undo, ()], True)], True)
        self.refused_at(3, mill, [undo, good, undo, bad])
        # What stands in the list itself, behind a do that's a deed.
        self.refused_at(1, mill, [("do", [undo], True), ("go", 0)])
        self.refused_at(1, mill, [undo, ("go", 65), ("do", [3], True)])
        self.refused_at(2, mill, [("do", [undo, ("do", [undo, undo, undo], True)], True), undo, 7])
        # A do that's none itself, whatever is in it.
        self.refused_at(2, mill, [undo, undo, ("do", [("go", 0)], 1)])
        self.refused_at(1, mill, [undo, ("do", [undo, ("do", [5], 1)], True)])
        self.refused_at(1, mill, [undo, ("do", [undo, undo, undo, ("do", (undo,), True)], True)])
        # Ahead of all: of what would be refused, too.
        self.refused_at(2, mill, [("drop", "q"), ("go", 1), ("gone", 1)])
        self.refused_at(2, mill, [("drop", "q"), ("go", 64), ("do", [("drop", "q"), ("do", [("gone", 1)], True)], True)])

    def test_bad_deeds_anywhere(self):
        dice = random.Random(20)
        mill = self.fed(ACC, x=[1, 2, 3])

        def row(deep):
            return [("do", row(deep - 1), True) if deep and dice.random() < 0.5 else ("undo",) for _ in range(dice.randint(1, 4))]

        def spoilt(deeds):
            """The row with one of its deeds, however far within, exchanged for what is none; and its place."""
            at = dice.randrange(len(deeds))
            word, *things = deeds[at]
            if word == "do" and dice.random() < 0.8:
                worse = (word, spoilt(things[0])[0], things[1])
            else:
                worse = dice.choice([None, 3, (), ("go", 0), ("gone",), ["undo"], ("do", [], 1), ("do", ("undo",), True)])
            return deeds[:at] + [worse] + deeds[at + 1:], at

        for _ in range(300):
            once, at = spoilt(row(2))
            self.refused_at(at, mill, once)
            more, later = row(2), row(2)
            self.refused_at(len(more) + at, mill, more + once + spoilt(later)[0])

    def test_lists_of_deeds_are_the_askers_own(self):
        mill = Mill(ACC)
        numbers = whole(1, 2, 3)
        inner = [("go", 1)]
        deeds = [("feed", "x", numbers), ("do", inner, True)]
        told = mill.do(deeds)
        self.assertEqual(deeds, [("feed", "x", whole(1, 2, 3)), ("do", [("go", 1)], True)])
        numbers.clear()
        inner.clear()
        deeds.clear()
        told[1][0][0].clear()
        told.clear()
        self.assertEqual((mill.left("x"), mill.told()), (whole(2, 3), [(0, "a", ONE)]))


class AgainstShadows(Check):
    def same(self, mill, shadow):
        kept = [(place, tuple(as_number(one) for one in shadow.kept[place])) for place in shadow.keeping(shadow.program)]
        left = [(name, shadow.left[name]) for name, _ in shadow.program[0]]
        self.assertEqual(told_of(mill), (
            shadow.program, shadow.at, kept, left, look(shadow.program), round_of(shadow.program), shadow.told,
            graph_of(shadow.program), len(shadow.back), 0))
        self.assertEqual(mill.log(), shadow.log)

    def ask(self, mill, shadow, deed):
        """Both do it, or are refused alike; told is the refusal's kind, or the word."""
        words = {"go": lambda beats: mill.go(beats=beats), "put": lambda name, term, keep: mill.put(name, term, keep=keep),
                 "do": lambda deeds, whole: mill.do(deeds, whole=whole)}
        ask = words.get(deed[0]) or getattr(mill, deed[0])
        try:
            awaited = shadow.do_deed(deed)
        except Refused as refused:
            with self.assertRaises((ValueError, KeyError, LookupError, RuntimeError, OverflowError)) as caught:
                ask(*deed[1:])
            self.assertEqual(type(caught.exception).__name__, refused.kind)
            if refused.kind != "Round":
                self.assertEqual(list(vars(caught.exception).values()), [] if refused.kind == "TooBig" else [refused.field])
            return refused.kind
        self.assertEqual(ask(*deed[1:]), awaited)
        return deed[0]

    def test_some_deeds(self):
        dice = random.Random(71)
        seen = set()
        for program in [BIG, TWO, *some_good_programs(602, 60, 4)]:
            mill, shadow = Mill(program), Shadow(program)
            for name, _ in program[0]:
                self.ask(mill, shadow, ("feed", name, whole(*range(1, 40))))
            for _ in range(30):
                if shadow.at < 200:
                    seen.add(self.ask(mill, shadow, some_deed(dice, shadow)))
                    self.same(mill, shadow)
            # A new one to which the deeds that stand are done is the same.
            fresh = Mill(program)
            fresh.do([deed for _, deed in shadow.back])
            self.assertEqual(fresh, mill)
            self.assertEqual(told_of(fresh), told_of(mill))
            twin = mill.twin()
            self.assertEqual(told_of(twin), told_of(mill))
            while shadow.back:
                self.assertIs(twin.undo(), True)
                shadow.do_deed(("undo",))
                shadow.log.clear()
                self.same(twin, shadow)
            self.assertIs(twin.undo(), False)
        self.assertEqual(seen, {
            "feed", "go", "put", "drop", "show", "hide", "undo", "do", "NoSpring", "BadNumbers", "Dry", "BadName", "NoName", "TooBig",
            "Round", "Clash", "Loose", "TooFar", "NotNow", "NoBrook", "Used", "LastOut", "IsOut", "NotOut"} - self.seldom(seen))

    def seldom(self, seen):
        return {"TooFar", "TooBig", "BadTerm"} - seen

    def test_untouched_brooks_go_on(self):
        dice = random.Random(72)
        compared = 0
        for program in some_good_programs(603, 60, 4):
            mill = Mill(program)
            for name, _ in program[0]:
                mill.feed(name, whole(*[dice.randint(-9, 9) for _ in range(64)]))
            long = mill.round_now()
            mill.go(beats=2 * long)
            twin = mill.twin()
            shadow = Shadow(program)
            shadow.at = 2 * long
            for _ in range(6):
                deed = some_deed(dice, shadow, 0)
                if deed[0] == "put":
                    try:
                        mill.put(deed[1], deed[2], keep=deed[3])
                    except (ValueError, KeyError, LookupError, RuntimeError, OverflowError):
                        continue
                    break
            else:
                continue
            touched = {deed[1]}
            uses = dict(mill.program()[1])
            while True:
                more = {name for name, term in uses.items() if touched & set(names_of(term))} - touched
                if not more:
                    break
                touched |= more
            rows, awaited = mill.go(beats=20), twin.go(beats=20)
            for name in program[2]:
                if name not in touched:
                    compared += 1
                    self.assertEqual([pair for row in rows for pair in row if pair[0] == name], [
                        pair for row in awaited for pair in row if pair[0] == name])
        self.assertGreater(compared, 15)


def names_of(term):
    if term[0] == "name":
        return [term[1]]
    return [name for thing in term[1:] if isinstance(thing, tuple) and isinstance(thing[0], str) for name in names_of(thing)]


if __name__ == "__main__":
    unittest.main()
