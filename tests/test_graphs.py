"""GRAPHs: what they are, those of programs, least ones, what they tell. [12]"""

import random
import unittest

from brookworks.errors import Loose, NotGiven
from brookworks.graphs import alike_in, graph_of, graph_run, is_graph, least_graph
from brookworks.looks import look
from brookworks.plain import plain_run
from brookworks.programs import with_brook
from brookworks.texts import term_in
from tests import graphing
from tests.helpers import A, BIG, ONE, X, ZERO, one_brook, program_of, some_programs, spring, whole
from tests.oracle import REFUSED, check_refused_as_look_is, some_given, some_good_programs, told_by
from tests.spoiling import ODD, spoilt_things


def out(*nodes):
    return (nodes, (("a", 0),))


TWO, HALF = (2, 1), (1, 2)

# A node of each word, no two alike, a round through a late, called as they're first come to.
EACH = (
    (
        ("sum", None, (1, 13), 1),
        ("less", None, (2, 4), 1),
        ("by", HALF, (3,), 1),
        spring(),
        ("pick", None, (3, 5, 6), 1),
        ("fixed", ONE, (), 1),
        ("twice", None, (7,), 1),
        ("half", None, (8,), 2),
        ("most", None, (9, 12), 1),
        ("least", None, (10, 11), 1),
        ("late", (-3, 4), (0,), 1),
        ("late", ZERO, (10,), 1),
        ("late", ZERO, (0,), 1),
        ("twice", None, (14,), 1),
        spring("y", 2),
    ),
    (("a", 0), ("x", 7), ("b", 0)),
)


class GraphOf(unittest.TestCase):
    def of(self, text, *nodes, springs=(("x", 1), ("y", 1))):
        program = one_brook(term_in(text), *springs)
        self.assertEqual(graph_of(program), out(*nodes))

    def test_each_word(self):
        self.of("x", spring())
        self.of("x", spring("x", 4), springs=(("x", 4),))
        self.of("sum x y", ("sum", None, (1, 2), 1), spring(), spring("y"))
        self.of("sum x 1/2", ("sum", None, (1, 2), 1), spring(), ("fixed", HALF, (), 1))
        self.of("less x y", ("less", None, (1, 2), 1), spring(), spring("y"))
        self.of("by -1/2 x", ("by", (-1, 2), (1,), 1), spring())
        self.of("pick x y 1", ("pick", None, (1, 2, 3), 1), spring(), spring("y"), ("fixed", ONE, (), 1))
        self.of("late 1/2 x", ("late", HALF, (1,), 1), spring())
        self.of("half x", ("half", None, (1,), 2), spring())
        self.of("twice x", ("twice", None, (1,), 4), spring("x", 8), springs=(("x", 8),))

    def test_windows(self):
        for word, joint in [("most", "most"), ("least", "least"), ("over", "sum")]:
            self.of(f"{word} 2 1 x", (joint, None, (1, 2), 1), spring(), ("late", ONE, (1,), 1))
            self.of(
                f"{word} 3 1 x", (joint, None, (1, 4), 1), (joint, None, (2, 3), 1), spring(),
                ("late", ONE, (2,), 1), ("late", ONE, (3,), 1))
            self.of(
                f"{word} 4 1 x", (joint, None, (1, 6), 1), (joint, None, (2, 5), 1), (joint, None, (3, 4), 1), spring(),
                ("late", ONE, (3,), 1), ("late", ONE, (4,), 1), ("late", ONE, (5,), 1))
            self.of(
                f"{word} 5 1 x", (joint, None, (1, 8), 2), (joint, None, (2, 7), 2), (joint, None, (3, 6), 2),
                (joint, None, (4, 5), 2), spring("x", 2), ("late", ONE, (4,), 2), ("late", ONE, (5,), 2),
                ("late", ONE, (6,), 2), ("late", ONE, (7,), 2), springs=(("x", 2),))

    def test_windows_share_what_is_alike(self):
        self.of(
            "sum most 3 1 x most 2 1 x", ("sum", None, (1, 2), 1), ("most", None, (2, 5), 1), ("most", None, (3, 4), 1),
            spring(), ("late", ONE, (3,), 1), ("late", ONE, (4,), 1))
        self.of(
            "sum most 2 1 x least 2 1 x", ("sum", None, (1, 4), 1), ("most", None, (2, 3), 1), spring(),
            ("late", ONE, (2,), 1), ("least", None, (2, 3), 1))
        self.of("less over 2 0 x sum x late 0 x", ("less", None, (1, 1), 1), ("sum", None, (2, 3), 1), spring(),
                ("late", ZERO, (2,), 1))

    def test_the_same_twice_and_turned_about(self):
        self.of("less sum x y sum x y", ("less", None, (1, 1), 1), ("sum", None, (2, 3), 1), spring(), spring("y"))
        self.of(
            "less sum x y sum y x", ("less", None, (1, 4), 1), ("sum", None, (2, 3), 1), spring(), spring("y"),
            ("sum", None, (3, 2), 1))
        self.of("sum x x", ("sum", None, (1, 1), 1), spring())

    def test_fixed_ones_of_unlike_periods(self):
        self.of(
            "sum twice sum 1 half x 1", ("sum", None, (1, 6), 1), ("twice", None, (2,), 1), ("sum", None, (3, 4), 2),
            ("fixed", ONE, (), 2), ("half", None, (5,), 2), spring(), ("fixed", ONE, (), 1))

    def test_a_name_is_what_it_names(self):
        program = program_of("spring x 1", "brook a b", "brook b c", "brook c half x", "out a", "out c", "out b")
        self.assertEqual(graph_of(program), ((("half", None, (1,), 2), spring()), (("a", 0), ("c", 0), ("b", 0))))
        program = program_of("spring x 1", "brook a x", "out a")
        self.assertEqual(graph_of(program), ((spring(),), (("a", 0),)))
        program = program_of("spring x 1", "brook a half b", "brook b c", "brook c sum d d", "brook d x", "out a", "out d")
        self.assertEqual(graph_of(program), (
            (("half", None, (1,), 2), ("sum", None, (2, 2), 1), spring()), (("a", 0), ("d", 2))))

    def test_brooks_that_nothing_uses(self):
        # They're looked at, nevertheless.
        program = program_of("spring x 1", "spring y 1", "brook b y", "brook a x", "brook e late 1 e", "out a")
        self.assertRaises(Loose, graph_of, program)
        program = program_of("spring x 1", "spring y 1", "brook b sum y e", "brook a x", "brook e late 1 b", "out a")
        self.assertEqual(graph_of(program), ((spring(),), (("a", 0),)))

    def test_rounds(self):
        self.assertEqual(graph_of(one_brook(("sum", X, ("late", ZERO, A)), ("x", 1))), out(
            ("sum", None, (1, 2), 1), spring(), ("late", ZERO, (0,), 1)))
        program = program_of("spring x 1", "brook a late 1 b", "brook b late 2 sum a less x x", "out a")
        self.assertEqual(graph_of(program), out(
            ("late", ONE, (1,), 1), ("late", TWO, (2,), 1), ("sum", None, (0, 3), 1), ("less", None, (4, 4), 1),
            spring()))

    def test_alike_only_round_and_round(self):
        # c and d tell the same, as each is the other's late; and so does e, which is its own.
        program = program_of(
            "spring x 1", "brook a sum x less c e", "brook c sum x late 1 d", "brook d sum x late 1 c",
            "brook e sum x late 1 e", "out a", "out d")
        self.assertEqual(graph_of(program), (
            (("sum", None, (1, 2), 1), spring(), ("less", None, (3, 3), 1), ("sum", None, (1, 4), 1),
             ("late", ONE, (3,), 1)),
            (("a", 0), ("d", 3))))
        # Told apart by one number far behind.
        program = with_brook(program, "d", term_in("sum x late 2 c"))
        self.assertEqual(len(graph_of(program)[0]), 9)

    def test_called_as_first_come_to(self):
        program = program_of(
            "spring x 1", "spring y 1", "brook a sum c by 2 y", "brook b late 1 less y x", "brook c pick y b x",
            "out b", "out a")
        self.assertEqual(graph_of(program=program), (
            (("late", ONE, (1,), 1), ("less", None, (2, 3), 1), spring("y"), spring(), ("sum", None, (5, 6), 1),
             ("pick", None, (2, 0, 3), 1), ("by", TWO, (2,), 1)),
            (("b", 0), ("a", 4))))

    def test_big(self):
        self.assertEqual(graph_of(BIG), (
            (("sum", None, (1, 2), 1), spring(), ("late", ZERO, (0,), 1), ("twice", None, (4,), 1),
             ("most", None, (5, 10), 2), ("most", None, (6, 9), 2), ("less", None, (7, 8), 2), ("half", None, (0,), 2),
             spring("y", 2), ("late", ZERO, (6,), 2), ("late", ZERO, (9,), 2)),
            (("acc", 0), ("thick", 3), ("both", 6))))

    def test_some_programs(self):
        for program in [*some_good_programs(71, 200), *self.good(some_programs(72, 300))]:
            graph = graph_of(program)
            self.assertIs(is_graph(graph), True)
            self.assertTrue(graphing.is_graph(graph))
            self.assertEqual(graphing.alike(graph), [])
            self.assertTrue(graphing.is_called_as_told(graph))
            self.assertEqual([name for name, _ in graph[1]], list(program[2]))

    def good(self, programs):
        for program in programs:
            try:
                look(program)
            except REFUSED:
                continue
            yield program

    def test_refused_as_look_is(self):
        check_refused_as_look_is(self, 73, graph_of)

    def test_told_beyond_the_bounds(self):
        term = X
        for number in range(150):
            term = ("sum", ("late", (number, 1), term), X)
        program = with_brook(one_brook(X, ("x", 1)), "a", term)
        graph = graph_of(program)
        self.assertEqual(len(graph[0]), 301)
        self.assertEqual(alike_in(graph), [])
        self.assertEqual(least_graph(graph), graph)
        given = {"x": whole(*range(20))}
        self.assertEqual(graph_run(graph, given, 20), plain_run(program, given, 20))
        self.assertIs(is_graph(graph), False)


class IsGraph(unittest.TestCase):
    def so(self, thing, awaited):
        self.assertIs(is_graph(thing), awaited, thing)
        self.assertIs(graphing.is_graph(thing), awaited, thing)

    def test_each_word(self):
        self.so(EACH, True)
        self.assertIs(is_graph(thing=EACH), True)
        self.assertEqual({node[0] for node in EACH[0]}, set(
            "spring fixed sum less most least by pick late half twice".split()))

    def test_each_part_spoilt(self):
        for graph in (EACH, out(spring()), graph_of(BIG), out(("late", ZERO, (0,), 1))):
            self.so(graph, True)
            for thing in spoilt_things(graph, 6):
                self.assertIs(is_graph(thing), graphing.is_graph(thing), thing)

    def test_things_of_any_kind(self):
        for thing in ODD:
            for other in (thing, (thing,), (thing, thing), ((thing,), (thing,)), (EACH[0], thing), (thing, EACH[1]),
                          (EACH[0] + (thing,), EACH[1]), (EACH[0], EACH[1][:2] + (thing,)), [EACH, thing]):
                self.so(other, False)

    def test_lists_for_tuples(self):
        self.so(list(EACH), False)
        self.so((list(EACH[0]), EACH[1]), False)
        self.so((EACH[0], list(EACH[1])), False)
        self.so(out(["spring", "x", (), 1]), False)
        self.so(out(("spring", "x", [], 1)), False)
        self.so(((spring(),), (["a", 0],)), False)
        self.so(out(("fixed", [1, 1], (), 1)), False)

    def test_true_and_false_for_numbers(self):
        self.so(out(("spring", "x", (), True)), False)
        self.so(((spring(),), (("a", False),)), False)
        self.so(out(("half", None, (True,), 2), spring()), False)
        self.so(out(("late", ZERO, (False,), 1)), False)
        self.so(out(("fixed", (True, 1), (), 1)), False)
        self.so(out(("fixed", (1, True), (), 1)), False)

    def test_whats(self):
        for what in (None, (1, 1), "X", "", "toolong", "sum", "beat", "a b", 1):
            self.so(out(("spring", what, (), 1)), False)
        for what in (None, "x", 1, (2, 2), (1, 3), (0, 2), (1, 0), (1, -2), (1,), (1, 1, 1)):
            self.so(out(("fixed", what, (), 1)), False)
            self.so(out(("by", what, (1,), 1), spring()), False)
            self.so(out(("late", what, (1,), 1), spring()), False)
        for what in ("x", 0, (0, 1), (), False):
            for word, many in [("sum", 2), ("less", 2), ("most", 2), ("least", 2), ("pick", 3)]:
                self.so(out((word, what, (1,) * many, 1), spring()), False)
                self.so(out((word, None, (1,) * many, 1), spring()), True)
            self.so(out(("half", what, (1,), 2), spring()), False)
            self.so(out(("twice", what, (1,), 1), spring("x", 2)), False)

    def test_any_number(self):
        for number in [(99, 1), (100, 1), (-10 ** 30, 1), (1, 16), (1, 32), (1, 2 ** 64), (10 ** 20 + 1, 2 ** 70)]:
            self.so(out(("fixed", number, (), 1)), True)
            self.so(out(("late", number, (0,), 1)), True)
            self.so(out(("by", number, (1,), 1), spring()), True)

    def test_words(self):
        for word in ("name", "over", "take", "SUM", "", None, 0, ("sum",), "give"):
            self.so(out((word, None, (1, 1), 1), spring()), False)

    def test_how_many_args(self):
        for word, many in [("sum", 2), ("less", 2), ("most", 2), ("least", 2), ("pick", 3)]:
            for other in range(5):
                self.so(out((word, None, (1,) * other, 1), spring()), other == many)
        for other in range(4):
            self.so(out(("by", ONE, (1,) * other, 1), spring()), other == 1)
            self.so(out(("late", ONE, (1,) * other, 1), spring()), other == 1)
            self.so(out(("half", None, (1,) * other, 2), spring()), other == 1)
            self.so(out(("spring", "x", (1,) * other, 1), spring("y")), False)
            self.so(out(("fixed", ONE, (1,) * other, 1), spring("y")), False)
        self.so(out(("spring", "x", (), 1)), True)

    def test_args_beyond_the_nodes(self):
        for arg in (-1, -2, 2, 3, 10 ** 9, None, "1", (1,), 1.5):
            self.so(out(("by", ONE, (arg,), 1), spring()), False)
        self.so(out(("by", ONE, (1,), 1), spring()), True)
        for node in (-1, 2, 100, None, "a", "0"):
            self.so((EACH[0][3:4] * 1, (("a", node),)), False)

    def test_periods_that_do_not_meet(self):
        for period in (1, 2, 4, 8, 16, 0, 3, -1, 32, 5, None, "1"):
            for other in (1, 2, 4, 8, 16):
                first = spring("x", other)
                for row in [("by", ONE, (1,), period), ("late", ONE, (1,), period), ("sum", None, (1, 1), period),
                            ("less", None, (1, 1), period), ("most", None, (1, 1), period),
                            ("least", None, (1, 1), period), ("pick", None, (1, 1, 1), period)]:
                    self.so(out(row, first), period == other)
                self.so(out(("half", None, (1,), period), first), period == 2 * other and other < 16)
                self.so(out(("twice", None, (1,), period), first), period in (1, 2, 4, 8) and 2 * period == other)
        for word in ("sum", "less", "most", "least"):
            for args in [(1, 2), (2, 1)]:
                self.so(out((word, None, args, 1), spring("x", 1), spring("y", 2)), False)
        for args in [(1, 1, 2), (1, 2, 1), (2, 1, 1)]:
            self.so(out(("pick", None, args, 1), spring("x", 1), spring("y", 2)), False)
        for period in (0, 3, 32, 6):
            self.so(out(spring("x", period)), False)
            self.so(out(("fixed", ONE, (), period)), False)

    def test_springs_of_one_name(self):
        self.so(out(("sum", None, (1, 2), 1), spring(), ("twice", None, (3,), 1), spring("x", 2)), False)
        self.so(out(("sum", None, (1, 2), 1), spring(), ("twice", None, (3,), 1), spring("y", 2)), True)
        self.so(out(("sum", None, (1, 2), 1), spring(), spring()), True)

    def test_rounds(self):
        self.so(out(("by", ONE, (0,), 1)), False)
        self.so(out(("late", ONE, (0,), 1)), True)
        self.so(out(("sum", None, (1, 0), 1), spring()), False)
        self.so(out(("sum", None, (1, 2), 1), spring(), ("late", ONE, (0,), 1)), True)
        self.so(out(("sum", None, (1, 2), 1), spring(), ("by", ONE, (0,), 1)), False)
        self.so(out(("half", None, (1,), 2), ("twice", None, (0,), 1)), False)
        self.so(out(("half", None, (1,), 2), ("late", ONE, (2,), 1), ("twice", None, (0,), 1)), True)
        # A round without a late behind one.
        self.so(out(("late", ONE, (1,), 1), ("by", ONE, (2,), 1), ("by", ONE, (1,), 1)), False)

    def test_nodes_that_no_out_comes_to(self):
        self.so(out(spring(), spring("y")), False)
        self.so(out(spring(), ("by", ONE, (0,), 1)), False)
        self.so(out(spring(), ("late", ONE, (1,), 1)), False)
        self.so(((spring(), spring("y")), (("a", 1), ("b", 0))), True)
        self.so(((spring(), spring("y")), (("a", 1), ("b", 1))), False)

    def test_outs(self):
        row = (spring(),)
        self.so((row, ()), False)
        outs = tuple((name, 0) for name in "abcd")
        for many in range(1, 5):
            self.so((row, outs[:many]), many <= 3)
        self.so((row, (("a", 0), ("b", 0), ("a", 0))), False)
        self.so((row, (("x", 0),)), True)
        for name in ("", "A", "toolong", "sum", None, 1, ("a",), "beat", "a1"):
            self.so((row, ((name, 0),)), False)
        for thing in (("a",), ("a", 0, 0), "a0", ("a", (0,)), (0, "a")):
            self.so((row, (thing,)), False)

    def test_how_many_nodes(self):
        self.so(((), (("a", 0),)), False)
        self.so(((), ()), False)
        for many in (1, 2, 99, 100, 101, 150):
            rows = tuple(("by", ONE, (at + 1,), 1) for at in range(many - 1)) + (spring(),)
            self.so(out(*rows), many <= 100)


class Alike(unittest.TestCase):
    def test_of_least_ones_none(self):
        for program in [BIG, *some_good_programs(74, 150)]:
            graph = graph_of(program)
            self.assertEqual(alike_in(graph), [])
            self.assertEqual(least_graph(graph), graph)
        self.assertEqual(alike_in(EACH), [])
        self.assertEqual(least_graph(graph=EACH), EACH)

    def test_twice_and_thrice(self):
        rows = (("sum", None, (3, 1), 1), spring(), spring("y"), spring(), spring())
        graph = (rows[:4], (("a", 0), ("b", 2)))
        self.assertEqual(alike_in(graph), [(1, 3)])
        self.assertEqual(alike_in(graph=graph), [(1, 3)])
        self.assertEqual(least_graph(graph), ((("sum", None, (1, 1), 1), spring(), spring("y")), (("a", 0), ("b", 2))))
        graph = (rows, (("a", 0), ("b", 2), ("c", 4)))
        self.assertEqual(alike_in(graph), [(1, 3), (1, 4), (3, 4)])
        self.assertEqual(least_graph(graph), (
            (("sum", None, (1, 1), 1), spring(), spring("y")), (("a", 0), ("b", 2), ("c", 1))))

    def test_word_what_period_and_args(self):
        for one, other in [
            (("fixed", ONE, (), 1), ("fixed", TWO, (), 1)),
            (("fixed", ONE, (), 1), ("fixed", ONE, (), 2)),
            (("by", ONE, (2,), 1), ("late", ONE, (2,), 1)),
            (("sum", None, (2, 3), 1), ("sum", None, (3, 2), 1)),
            (("sum", None, (2, 3), 1), ("less", None, (2, 3), 1)),
            (("late", ONE, (0,), 1), ("late", ONE, (2,), 1)),
        ]:
            graph = ((one, other, spring(), spring("y")), (("a", 0), ("b", 1)))
            self.assertEqual(alike_in(graph), [])
        for one in [("fixed", ONE, (), 1), ("by", ONE, (2,), 1), ("sum", None, (2, 3), 1)]:
            self.assertEqual(alike_in(((one, one, spring(), spring("y")), (("a", 0), ("b", 1)))), [(0, 1)])

    def test_a_round_gone_through_twice(self):
        graph = out(
            ("sum", None, (1, 2), 1), spring(), ("late", ONE, (3,), 1), ("sum", None, (4, 5), 1), spring(),
            ("late", ONE, (0,), 1))
        self.assertEqual(alike_in(graph), [(0, 3), (1, 4), (2, 5)])
        self.assertEqual(least_graph(graph), out(("sum", None, (1, 2), 1), spring(), ("late", ONE, (0,), 1)))
        # One number apart, none of the round is alike.
        other = (graph[0][:5] + (("late", TWO, (0,), 1),), graph[1])
        self.assertEqual(alike_in(other), [(1, 4)])
        self.assertEqual(len(least_graph(other)[0]), 5)
        # A round of two and one of three, of lates alone, are alike.
        rounds = (
            (("late", ONE, (1,), 1), ("late", ONE, (0,), 1), ("late", ONE, (3,), 1), ("late", ONE, (4,), 1),
             ("late", ONE, (2,), 1)),
            (("a", 0), ("b", 3)))
        self.assertEqual(len(alike_in(rounds)), 10)
        self.assertEqual(least_graph(rounds), ((("late", ONE, (0,), 1),), (("a", 0), ("b", 0))))

    def test_with_nodes_twice(self):
        dice = random.Random(12)
        for program in [BIG, *some_good_programs(75, 150)]:
            graph = graph_of(program)
            for most in (1, 2, 3):
                other = graphing.with_nodes_twice(graph, dice, most)
                if len(other[0]) <= 100:
                    self.assertIs(is_graph(other), True)
                    self.assertEqual(alike_in(other), graphing.alike(other))
                    self.assertEqual(least_graph(other), graph)


class Runs(unittest.TestCase):
    def test_each_word(self):
        given = {"x": whole(5, -1, 7, 0), "y": [(1, 4), HALF], "z": None}
        told = graph_run(graph=EACH, given=given, beats=4)
        self.assertEqual(list(told), ["a", "x", "b"])
        # Of a: x/2 less the pick, and y.
        self.assertEqual(told["a"][0], (7, 4))
        self.assertEqual(told["x"][0], ZERO)
        self.assertEqual(told["a"], told["b"])

    def test_of_programs(self):
        dice = random.Random(13)
        for program in [BIG, *some_good_programs(76, 150)]:
            graph = graph_of(program)
            for beats in (0, 1, dice.randint(2, 40), 64):
                given = some_given(dice, program[0], beats, dice.choice([0, 2]))
                told = told_by(program, given, beats)
                awaited = {name: told[name] for name in program[2]}
                self.assertEqual({name: plain_run(program, given, beats)[name] for name in program[2]}, awaited)
                many = graphing.with_nodes_twice(graph, dice)
                for other in (graph, many, least_graph(many)):
                    self.assertEqual(graph_run(other, given, beats), awaited)

    def test_not_given(self):
        graph = ((("sum", None, (1, 2), 1), spring("z"), ("twice", None, (3,), 1), spring("b", 2), spring("m", 16)),
                 (("a", 0), ("c", 4)))
        full = {"z": whole(*range(17)), "b": whole(*range(9)), "m": whole(0, 1)}
        for given, beats, name in [
            ({}, 0, "b"), ({"b": []}, 0, "m"), ({"b": [], "m": []}, 0, "z"), ({**full, "z": []}, 1, "z"),
            ({**full, "b": whole(0)}, 3, "b"), ({**full, "m": whole(0)}, 17, "m"), (full, 18, "z"), (full, 19, "b"),
            ({**full, "m": whole(0), "z": []}, 17, "m"),
        ]:
            with self.assertRaises(NotGiven) as caught:
                graph_run(graph, given, beats)
            self.assertIs(type(caught.exception), NotGiven)
            self.assertEqual(caught.exception.name, name)
        self.assertEqual(graph_run(graph, full, 17)["c"], whole(0, 1))
        self.assertEqual(graph_run(graph, {"b": [], "m": [], "z": []}, 0), {"a": [], "c": []})

    def test_springs_that_are_no_nodes_do_not_matter(self):
        program = program_of("spring y 1", "spring x 1", "brook a x", "brook b y", "out a")
        self.assertEqual(graph_run(graph_of(program), {"x": whole(1)}, 1), {"a": whole(1)})
        self.assertEqual(graph_run(out(("late", ONE, (0,), 1)), {}, 3), {"a": whole(1, 1, 1)})

    def test_what_is_told_is_the_askers_own(self):
        graph = ((spring(),), (("a", 0), ("b", 0)))
        given = {"x": whole(1, 2)}
        told, again = graph_run(graph, given, 2), graph_run(graph, given, 2)
        lists = [*told.values(), *again.values(), given["x"]]
        self.assertEqual(len({id(one) for one in lists}), 5)
        told["a"].clear()
        self.assertEqual(told["b"], whole(1, 2))
        del told["b"]
        self.assertEqual(graph_run(graph, given, 2), again)
        self.assertEqual(given, {"x": whole(1, 2)})
        twice = ((("sum", None, (1, 2), 1), spring(), spring()), (("a", 0),))
        pairs = alike_in(twice)
        self.assertIsNot(pairs, alike_in(twice))
        pairs.clear()
        self.assertEqual(alike_in(twice), [(1, 2)])


if __name__ == "__main__":
    unittest.main()
