"""How far off a device's numbers may be, and how far they are. [17]"""

import itertools
import random
import unittest
from fractions import Fraction

from brookworks.codes import code_of
from brookworks.errors import NotGiven, Unsure
from brookworks.graphs import alike_in, graph_of, graph_run, is_graph, least_graph
from brookworks.noise import noise_of, off_by, worst_of
from brookworks.nums import less_of
from brookworks.texts import term_in
from tests.helpers import BIG, HALF, ONE, ZERO, program_of, spring, whole
from tests.graphing import flat_graph, some_tangled_graphs
from tests.noises import Noise
from tests.oracle import as_number, some_given, worth
from tests.test_codes import SWAPPED, graph_with, some_graphs
from tests.test_device import fed, springs_of
from tests.test_graphs import EACH


def last_of(text, *springs, beats=1, **bounds):
    """The pair (low, high) of a's last number, as fractions."""
    graph = graph_with(text, *springs) if "half" in text else flat_graph(term_in(text))
    low, high = noise_of(graph, beats, **bounds)["a"][-1]
    return (worth(low), worth(high))


def fractions(*numbers):
    return tuple(Fraction(number) for number in numbers)


class NoiseOf(unittest.TestCase):
    def unsure(self, node, graph, beats, **bounds):
        with self.assertRaises(Unsure) as caught:
            noise_of(graph, beats, **bounds)
        self.assertIs(type(caught.exception), Unsure)
        self.assertEqual(caught.exception.node, node)
        self.assertIs(type(caught.exception.node), int)

    def test_springs(self):
        for figures, fine, low in [(2, 3, "-1/8"), (2, 2, 0), (2, 1, 0), (0, 6, "-63/64"), (8, 6, 0), (5, 6, "-1/64"), (0, 0, 0)]:
            self.assertEqual(last_of("x", figures=figures, fine=fine), fractions(low, 0))
        self.assertEqual(last_of("x"), fractions(0, 0))
        self.assertEqual(last_of("x", fine=9), fractions("-1/512", 0))
        self.assertEqual(last_of("x", figures=4), fractions("-3/64", 0))
        self.assertRaises(TypeError, lambda: noise_of(graph_with("x"), 1, 8))

    def test_products(self):
        # By whole numbers nothing is cut; what its arg is off by is as often in it.
        self.assertEqual(last_of("by 3 x", figures=2, fine=3), fractions("-3/8", 0))
        self.assertEqual(last_of("by -3 x", figures=2, fine=3), fractions(0, "3/8"))
        self.assertEqual(last_of("by 3 x", figures=3, fine=3), fractions(0, 0))
        self.assertEqual(last_of("by 0 x", figures=2, fine=3), fractions(0, 0))
        self.assertEqual(last_of("by 3/4 x", figures=3, fine=3), fractions("-3/32", 0))
        self.assertEqual(last_of("by -1/2 x", figures=3, fine=3), fractions("-1/16", 0))
        self.assertEqual(last_of("by 3/4 x", figures=0, fine=1), fractions(Fraction(-3, 8) - Fraction(3, 4), 0))
        self.assertEqual(last_of("by -3/4 x", figures=0, fine=1), fractions("-3/4", "3/8"))
        self.assertEqual(last_of("by 1/2 by 1/2 x", figures=0, fine=0), fractions("-3/4", 0))

    def test_fixed_and_whats(self):
        self.assertEqual(last_of("3/16", figures=2), fractions("-3/16", "-3/16"))
        self.assertEqual(last_of("-3/16", figures=2), fractions("-1/16", "-1/16"))
        self.assertEqual(last_of("-3/16", figures=4), fractions(0, 0))
        self.assertEqual(last_of("late 3/4 x", figures=1), fractions("-1/4", "-1/4"))
        self.assertEqual(last_of("late 3/4 x", beats=2, figures=1, fine=2), fractions("-1/4", 0))
        self.assertEqual(last_of("by -2 1/2", figures=0), fractions(1, 1))

    def test_sums_of_the_same(self):
        self.assertEqual(last_of("less x x", figures=1, fine=4), fractions(0, 0))
        self.assertEqual(last_of("less x y", figures=1, fine=2), fractions("-1/4", "1/4"))
        self.assertEqual(last_of("sum x x", figures=1, fine=2), fractions("-1/2", 0))
        self.assertEqual(last_of("less x by 1/2 sum x x", figures=1, fine=2), fractions(0, "1/4"))
        self.assertEqual(last_of("less sum x x by 3 x", figures=1, fine=2), fractions(0, "1/4"))
        self.assertEqual(last_of("sum x by -1 x", figures=1, fine=2), fractions(0, 0))
        # A number of one beat is off by a CUT of its own.
        self.assertEqual(last_of("less x late 0 x", beats=2, figures=1, fine=2), fractions("-1/4", "1/4"))
        self.assertEqual(last_of("less late 0 x late 0 x", beats=2, figures=1, fine=2), fractions(0, 0))

    def test_choices_of_the_same(self):
        graph = ((("most", None, (1, 1), 1), spring()), (("a", 0),))
        self.assertEqual(noise_of(graph, 1, figures=1, fine=2), {"a": [((-1, 4), ZERO)]})
        # Off by the same, they're that: less the same again nothing is left.
        for word in ("most", "least"):
            nodes = (("less", None, (1, 3), 1), (word, None, (2, 3), 1), ("sum", None, (3, 4), 1), spring(), ("fixed", ONE, (), 1))
            self.assertEqual(noise_of((nodes, (("a", 0),)), 1, figures=1, fine=2), {"a": [(ZERO, ZERO)]})
            nodes = nodes[:4] + (("fixed", HALF, (), 1),)
            self.assertEqual(noise_of((nodes, (("a", 0),)), 1, figures=0, fine=0), {"a": [((-1, 2), ZERO)]})
            # Two springs are off by CUTs of their own, though these go as far.
            nodes = (("less", None, (1, 2), 1), (word, None, (2, 3), 1), spring(), spring("y"))
            self.assertEqual(noise_of((nodes, (("a", 0),)), 1, figures=1, fine=2), {"a": [((-1, 4), (1, 4))]})
            self.assertEqual(noise_of((nodes, (("a", 1),)), 1, figures=1, fine=2), {"a": [((-1, 4), ZERO)]})
        self.assertEqual(last_of("pick 1 sum x 1 x", figures=1, fine=2), fractions("-1/4", 0))
        self.assertEqual(last_of("less x pick 1 sum x 1 x", figures=1, fine=2), fractions(0, 0))
        self.assertEqual(last_of("less x pick 1 by 2 x x", figures=1, fine=2), fractions("-1/4", "1/2"))
        self.assertEqual(last_of("pick 1 1/2 3/8", figures=0), fractions("-1/2", "-3/8"))
        # What's in it nought times is not in it.
        self.assertEqual(last_of("less y pick 1 sum y less x x y", figures=1, fine=2), fractions(0, 0))
        self.assertEqual(last_of("less y pick 1 sum y by 0 x y", figures=1, fine=2), fractions(0, 0))
        self.assertEqual(last_of("less y pick 1 sum y x y", figures=1, fine=2), fractions("-1/4", "1/2"))
        self.assertEqual(last_of("pick 1 by -1 x x", figures=1, fine=2), fractions("-1/4", "1/4"))

    def test_a_cut_of_its_own_is_in_it_once(self):
        # The choice's CUT is thought anywhere in its span, by itself: less itself it's nought.
        nodes = (("less", None, (1, 1), 1), ("most", None, (2, 3), 1), spring(), spring("y"))
        self.assertEqual(noise_of((nodes, (("a", 0),)), 1, figures=1, fine=2), {"a": [(ZERO, ZERO)]})
        nodes = (("sum", None, (1, 1), 1),) + nodes[1:]
        self.assertEqual(noise_of((nodes, (("a", 0),)), 1, figures=1, fine=2), {"a": [((-1, 2), ZERO)]})

    def test_alike_springs_are_off_by_themselves(self):
        nodes = (("less", None, (1, 2), 1), spring(), spring())
        graph = (nodes, (("a", 0),))
        self.assertTrue(is_graph(graph))
        self.assertEqual(noise_of(graph, 1, figures=1, fine=2), {"a": [((-1, 4), (1, 4))]})
        self.assertEqual(noise_of(least_graph(graph), 1, figures=1, fine=2), {"a": [(ZERO, ZERO)]})

    def test_rounds(self):
        graph = graph_of(program_of("spring x 1", "brook a sum x late 3/4 a", "out a"))
        self.assertEqual(noise_of(graph, 4, figures=1, fine=2), {
            "a": [(as_number(Fraction(-2 - at, 4)), (-1, 4)) for at in range(4)]})
        halved = graph_of(program_of("spring x 1", "brook a by 1/2 sum x late 0 a", "out a"))
        told = noise_of(halved, 3, figures=0, fine=0)["a"]
        self.assertEqual(told, [((-1, 2), ZERO), ((-3, 4), ZERO), ((-7, 8), ZERO)])
        self.assertEqual(noise_of(SWAPPED, 5, figures=0), {"a": [(ZERO, ZERO)] * 3, "b": [(ZERO, ZERO)] * 3})

    def test_rates(self):
        graph = graph_of(program_of("spring x 1", "brook a twice sum late 1/2 half x half x", "brook b half half x", "out b", "out a"))
        one, none = ((-1, 4), ZERO), ((-1, 4), ZERO)
        self.assertEqual(noise_of(graph, 5, figures=1, fine=2), {
            "b": [one, none], "a": [((-1, 4), ZERO), ((-1, 4), ZERO), ((-1, 2), ZERO), ((-1, 2), ZERO), ((-1, 2), ZERO)]})
        self.assertEqual(noise_of(graph, 0), {"a": [], "b": []})
        # A twice's number, told again, is off by the same.
        self.assertEqual(last_of("less twice half x late 0 twice half x", beats=2, figures=1, fine=2), fractions(0, 0))
        self.assertEqual(last_of("less twice half x late 0 twice half x", beats=3, figures=1, fine=2), fractions("-1/4", "1/4"))

    def test_unsure(self):
        graph = graph_with("pick x 1 2")
        self.assertEqual(noise_of(graph, 5), {"a": [(ZERO, ZERO)] * 5})
        self.unsure(0, graph, 1, figures=5)
        self.assertEqual(noise_of(graph, 0, figures=5), {"a": []})
        self.unsure(0, flat_graph(term_in("pick 1/2 1 2")), 1, figures=0)
        self.assertEqual(noise_of(flat_graph(term_in("pick 1/2 1 2")), 1, figures=1), {"a": [(ZERO, ZERO)]})
        # The first node that's such a pick, in the order in which they're called.
        nodes = (("sum", None, (2, 1), 1), ("pick", None, (3, 3, 4), 1), ("pick", None, (3, 4, 3), 1), spring(), ("fixed", ONE, (), 1))
        self.unsure(1, (nodes, (("a", 0),)), 2, figures=0)
        nodes = nodes[:1] + (("pick", None, (4, 3, 4), 1),) + nodes[2:]
        self.unsure(2, (nodes, (("a", 0),)), 2, figures=0)
        # What's less itself is off by nought, what's chosen of two that are off is not.
        self.assertEqual(noise_of(graph_with("pick less x x 1 2"), 1, figures=0), {"a": [(ZERO, ZERO)]})
        self.assertEqual(last_of("pick less x x x 2", figures=0, fine=1), fractions("-1/2", 0))

    def test_unsure_at_a_later_beat(self):
        graph = graph_with("pick late 0 x 1 2")
        self.assertEqual(noise_of(graph, 1, figures=0), {"a": [(ZERO, ZERO)]})
        self.unsure(0, graph, 2, figures=0)
        graph = graph_with("half pick late 0 late 0 half x 1 2")
        self.assertEqual(noise_of(graph, 4, figures=0), {"a": [(ZERO, ZERO)]})
        self.unsure(1, graph, 5, figures=0)
        # Off by as much, up and down, isn't off by just nought.
        self.unsure(0, graph_with("pick less x y 1 2"), 1, figures=0)

    def test_against_fractions(self):
        dice = random.Random(4)
        kinds = set()
        for graph in [graph_of(BIG), EACH, *some_graphs(401, 80), *some_tangled_graphs(404, 200)]:
            figures, fine, beats = dice.choice([0, 1, 2, 4, 8]), dice.choice([0, 1, 3, 6]), dice.choice([1, 3, 9, 17])
            noise = Noise(graph, figures, fine)
            node = noise.unsure(beats)
            kinds.add(node is None)
            if node is not None:
                self.unsure(node, graph, beats, figures=figures, fine=fine)
                continue
            told = noise_of(graph, beats, figures=figures, fine=fine)
            awaited = {name: [(as_number(low), as_number(high)) for low, high in spans] for name, spans in noise.told(beats).items()}
            self.assertEqual(told, awaited)
            self.assertEqual(list(told), [name for name, _ in graph[1]])
            # Whatever springs tell, numbers are off by no less, no more.
            for _ in range(4):
                given = {}
                for name, period in springs_of(graph):
                    count = -(-beats // period)
                    given[name] = [as_number(Fraction(dice.randint(-99, 99), 2 ** fine)) for _ in range(count)]
                for name, offs in off_by(graph, given, beats, figures=figures).items():
                    self.assertEqual(len(offs), len(told[name]))
                    for off, (low, high) in zip(offs, told[name]):
                        self.assertTrue(worth(low) <= worth(off) <= worth(high))
        self.assertEqual(kinds, {True, False})

    def test_where_a_by_is_all_both_ends_are_met(self):
        for number in [(1, 2), (-3, 4), (5, 8), (3, 1), (-2, 1)]:
            for figures in (0, 1, 2):
                for fine in (figures, figures + 1, figures + 2):
                    graph = ((("by", number, (1,), 1), spring()), (("a", 0),))
                    low, high = noise_of(graph, 1, figures=figures, fine=fine)["a"][0]
                    offs = [
                        worth(off_by(graph, {"x": [as_number(Fraction(at, 2 ** fine))]}, 1, figures=figures)["a"][0])
                        for at in range(2 ** (fine + 4))
                    ]
                    self.assertEqual((min(offs), max(offs)), (worth(low), worth(high)))

    def test_many_beats(self):
        nodes = tuple(("sum", None, (at + 1, 99 - at % 3), 1) for at in range(90))
        nodes += tuple(("late", HALF, (at + 1,), 1) for at in range(90, 96)) + (("by", HALF, (97,), 1), spring("x"), spring("y"), spring("z"))
        graph = (nodes, (("a", 0),))
        self.assertTrue(is_graph(graph))
        self.assertEqual(len(noise_of(graph, 32, figures=0)["a"]), 32)

    def test_asked_twice(self):
        for graph in (graph_of(BIG), SWAPPED):
            told = noise_of(graph, 4, figures=0)
            again = noise_of(beats=4, graph=graph, figures=0, fine=6)
            self.assertEqual(told, again)
            for name in told:
                told[name].clear()
            told.clear()
            self.assertEqual(noise_of(graph, 4, figures=0), again)
        graph = ((spring(),), (("a", 0), ("b", 0)))
        told = noise_of(graph, 3)
        self.assertIsNot(told["a"], told["b"])


class OffBy(unittest.TestCase):
    def test_by_hand(self):
        graph = graph_of(program_of("spring x 1", "brook a by 1/2 sum x late 3/4 a", "brook b half x", "out b", "out a"))
        given = {"x": [(1, 4), (1, 2), (3, 1)]}
        # The device has 0, 1/2, 3 of x; 1/2 of a's late; by 1/2 it cuts again.
        self.assertEqual(off_by(graph, given, 3, figures=1), {
            "a": [(-1, 2), (-1, 2), (-1, 4)], "b": [(-1, 4), ZERO]})
        self.assertEqual(off_by(graph, given, 3), {"a": [ZERO] * 3, "b": [ZERO] * 2})
        self.assertEqual(off_by(graph, given, beats=0, figures=1), {"a": [], "b": []})

    def test_against_device_and_graph(self):
        dice = random.Random(9)
        for graph in [graph_of(BIG), EACH, SWAPPED, *some_graphs(402, 40), *some_tangled_graphs(405, 60)]:
            figures, beats = dice.choice([0, 1, 3, 8]), dice.choice([1, 6, 18])
            given = some_given(dice, springs_of(graph), beats, dice.choice([0, 2]))
            self.assertEqual(alike_in(graph), [])
            rows = fed(code_of(graph), given, wide=4000, figures=figures).run(beats)
            exact = graph_run(graph, given, beats)
            told = {name: [number for row in rows for out, number in row if out == name] for name in exact}
            awaited = {name: [less_of(one, other) for one, other in zip(told[name], exact[name])] for name in exact}
            self.assertEqual(off_by(graph, given, beats, figures=figures), awaited)

    def test_boxes_are_as_wide_as_need_be(self):
        graph = graph_with("sum x y")
        self.assertEqual(off_by(graph, {"x": [(2 ** 40, 1)], "y": [(2 ** 40 * 4 + 1, 4)]}, 1, figures=1), {"a": [(-1, 4)]})

    def test_not_given(self):
        graph = graph_with("sum x y")
        for given, name in [({}, "x"), ({"x": whole(1, 2)}, "y"), ({"x": whole(1), "y": whole(1, 2)}, "x"), ({"y": whole(1, 2)}, "x"),
                            ({"x": whole(1, 2), "y": whole(1)}, "y")]:
            with self.assertRaises(NotGiven) as caught:
                off_by(graph, given, 2)
            self.assertEqual(caught.exception.name, name)
        self.assertEqual(off_by(graph, {"x": [], "y": []}, 0), {"a": []})
        with self.assertRaises(NotGiven):
            off_by(graph, {"x": []}, 0)

    def test_alike_nodes(self):
        graph = ((("less", None, (1, 2), 1), spring(), spring()), (("a", 0),))
        self.assertEqual(off_by(graph, {"x": [HALF]}, 1, figures=0), {"a": [ZERO]})

    def test_asked_twice(self):
        graph = graph_of(BIG)
        given = {"x": [HALF, (1, 4)], "y": [(-1, 8)]}
        told = off_by(graph, given, 2, figures=0)
        again = off_by(given=given, beats=2, graph=graph, figures=0)
        self.assertEqual(told, again)
        told["acc"].clear()
        self.assertEqual(off_by(graph, given, 2, figures=0), again)
        self.assertEqual(given, {"x": [HALF, (1, 4)], "y": [(-1, 8)]})


def worst_awaited(graph, numbers, beats, figures):
    springs = springs_of(graph)
    counts = [-(-beats // period) for _, period in springs]
    worst = {}
    for way in itertools.product(numbers, repeat=sum(counts)):
        rest = list(way)
        given = {name: [rest.pop(0) for _ in range(count)] for (name, _), count in zip(springs, counts)}
        for name, offs in off_by(graph, given, beats, figures=figures).items():
            off = worth(offs[-1])
            least, most, first, other = worst.get(name, (off, off, given, given))
            worst[name] = (min(off, least), max(off, most), given if off < least else first, given if off > most else other)
    return {name: (as_number(least), as_number(most), first, other) for name, (least, most, first, other) in worst.items()}


class WorstOf(unittest.TestCase):
    def test_by_hand(self):
        graph = graph_with("less x y")
        self.assertEqual(worst_of(graph, [ZERO, (1, 4), HALF], 1, figures=1), {"a": (
            (-1, 4), (1, 4), {"x": [(1, 4)], "y": [ZERO]}, {"x": [ZERO], "y": [(1, 4)]})})
        # The last number of the last spring turns first.
        graph = graph_with("sum y late 0 x")
        self.assertEqual(worst_of(graph, [ZERO, (1, 4)], 2, figures=1), {"a": (
            (-1, 2), ZERO, {"x": [(1, 4), ZERO], "y": [ZERO, (1, 4)]}, {"x": [ZERO, ZERO], "y": [ZERO, ZERO]})})
        graph = graph_with("less y 1/4")
        self.assertEqual(worst_of(graph, [(-1, 4), (3, 4)], 1, figures=1), {"a": (
            ZERO, ZERO, {"y": [(-1, 4)]}, {"y": [(-1, 4)]})})

    def test_all_of_one_number(self):
        graph = graph_of(BIG)
        told = worst_of(graph, [(1, 4)], 5, figures=0)
        given = {"x": [(1, 4)] * 5, "y": [(1, 4)] * 3}
        self.assertEqual(told, {name: (offs[-1], offs[-1], given, given) for name, offs in off_by(graph, given, 5, figures=0).items()})
        self.assertEqual(list(told["acc"][2]), ["x", "y"])

    def test_against_all_ways(self):
        dice = random.Random(6)
        done = 0
        for graph in [graph_with("by 1/2 x"), *some_graphs(403, 40), *some_tangled_graphs(406, 40)]:
            springs = springs_of(graph)
            for beats in (1, 2, 3, 5):
                many = dice.choice([1, 2, 3])
                total = sum(-(-beats // period) for _, period in springs)
                if many ** total > 81:
                    continue
                done += 1
                numbers = sorted(dice.sample([Fraction(at, 8) for at in range(-9, 10)], many))
                numbers = [as_number(number) for number in numbers]
                figures = dice.choice([0, 1, 2])
                told = worst_of(graph, numbers, beats, figures=figures)
                self.assertEqual(told, worst_awaited(graph, numbers, beats, figures))
                for _, _, first, other in told.values():
                    self.assertEqual([list(first), list(other)], [[name for name, _ in springs]] * 2)
        self.assertGreater(done, 100)

    def test_all_ways_of_243(self):
        graph = graph_with("sum x late 0 by 1/2 x")
        told = worst_of(graph, [(-1, 4), ZERO, (3, 4)], 5, figures=1)
        self.assertEqual(told, worst_awaited(graph, [(-1, 4), ZERO, (3, 4)], 5, 1))

    def test_of_no_springs(self):
        self.assertEqual(worst_of(flat_graph(term_in("1/4")), [ZERO, ONE], 3, figures=1), {"a": ((-1, 4), (-1, 4), {}, {})})

    def test_where_figures_are_left_out(self):
        graph = graph_with("x")
        self.assertEqual(worst_of(graph, [ZERO, (1, 512)], 1)["a"][:2], ((-1, 512), ZERO))
        self.assertRaises(TypeError, lambda: worst_of(graph, [ZERO], 1, 8))

    def test_asked_twice(self):
        graph = ((spring(),), (("a", 0), ("b", 0)))
        numbers = [ZERO, (1, 4)]
        told = worst_of(graph, numbers, 2, figures=0)
        again = worst_of(beats=2, numbers=numbers, graph=graph, figures=0)
        self.assertEqual(told, again)
        dicts = [one for row in told.values() for one in row[2:]]
        self.assertEqual(len({id(one) for one in dicts}), 4)
        self.assertEqual(len({id(one["x"]) for one in dicts}), 4)
        dicts[0]["x"].clear()
        dicts[0].clear()
        self.assertEqual(worst_of(graph, numbers, 2, figures=0), again)
        self.assertEqual(numbers, [ZERO, (1, 4)])


if __name__ == "__main__":
    unittest.main()
