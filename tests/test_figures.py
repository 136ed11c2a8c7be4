"""How many figures a graph's numbers have at most. [16]"""

import random
import unittest

from brookworks.figures import figures_by
from brookworks.graphs import graph_of, graph_run, is_graph
from brookworks.limits import FINE
from brookworks.nums import figures_of
from brookworks.texts import term_in
from tests.helpers import BIG, HALF, ONE, ZERO, program_of, spring
from tests.oracle import some_given
from tests.test_codes import SWAPPED, graph_with, some_graphs
from tests.test_graphs import EACH
from tests.graphing import flat_graph, some_tangled_graphs


def of(text, *springs, fine=FINE):
    graph = graph_with(text, *springs) if "half" in text else flat_graph(term_in(text))
    return figures_by(graph, fine=fine)


def by_brute_force(graph, fine):
    """The rule again and again from nothing on; what's still growing behind all is None."""
    nodes = graph[0]
    counts = [0] * len(nodes)

    def once(counts):
        told = []
        for word, what, args, _ in nodes:
            most = max([counts[arg] for arg in args[word == "pick":]], default=0)
            own = what[1].bit_length() - 1 if isinstance(what, tuple) else 0
            told.append(fine if word == "spring" else most + own if word == "by" else max(most, own))
        return told

    # Behind so many turns nothing without a round that grows is below what it comes to.
    for _ in range(len(nodes) + 1):
        counts = once(counts)
    settled = counts
    for _ in range(len(nodes) * 3 + 3):
        counts = once(counts)
    return [None if later > one else one for one, later in zip(settled, counts)]


class Figures(unittest.TestCase):
    def test_each_word(self):
        self.assertEqual(FINE, 6)
        for text, awaited in [
            ("x", [6]), ("1", [0]), ("-3/16", [4]), ("sum x 1/16", [6, 6, 4]), ("less 1/2 1/8", [3, 1, 3]),
            ("by 3 x", [6, 6]), ("by 3/8 x", [9, 6]), ("by 1/2 1/4", [3, 2]), ("late 1/2 x", [6, 6]),
            ("late 1/16 1/2", [4, 1]), ("half x", [6, 6]), ("twice half late 1/4 x", [6, 6, 6, 6]),
            ("pick by 1/16 x 1/2 1/4", [2, 10, 6, 1, 2]), ("pick x x 1/4", [6, 6, 2]),
        ]:
            self.assertEqual(of(text), awaited, text)
        for word in ("most", "least"):
            graph = (((word, None, (1, 2), 1), ("fixed", HALF, (), 1), ("fixed", (1, 16), (), 1)), (("a", 0),))
            self.assertEqual(figures_by(graph), [4, 1, 4])

    def test_fine(self):
        for fine in (0, 1, 6, 12):
            self.assertEqual(of("by 3/8 sum x 1/16", fine=fine), [3 + max(4, fine), max(4, fine), fine, 4])
        self.assertEqual(figures_by(graph_with("x")), [6])
        self.assertRaises(TypeError, lambda: figures_by(graph_with("x"), 6))
        self.assertEqual(figures_by(graph=graph_with("x"), fine=0), [0])

    def test_rounds_of_lates(self):
        graph = graph_of(program_of("spring x 1", "brook a sum x late 1/2 a", "out a"))
        self.assertEqual(figures_by(graph), [6, 6, 6])
        self.assertEqual(figures_by(graph, fine=0), [1, 0, 1])
        self.assertEqual(figures_by(SWAPPED), [0, 0])
        graph = ((("late", (1, 8), (1,), 1), ("late", HALF, (0,), 1)), (("a", 0),))
        self.assertEqual(figures_by(graph), [3, 3])
        # A by of no figures may stand in a round.
        graph = graph_of(program_of("spring x 1", "brook a sum x late 1/2 by -3 a", "out a"))
        self.assertEqual(figures_by(graph, fine=2), [2, 2, 2, 2])

    def test_rounds_that_grow(self):
        graph = graph_of(program_of("spring x 1", "brook a sum x late 0 by 1/2 a", "brook b late 1 a", "brook c by 1/2 x",
                                    "out a", "out b", "out c"))
        self.assertEqual([node[0] for node in graph[0]], ["sum", "spring", "late", "by", "late", "by"])
        self.assertEqual(figures_by(graph), [None, 6, None, None, None, 7])
        # By 1/2 and then by 2 has ever more, by this rule.
        graph = graph_of(program_of("spring x 1", "brook a late 0 by 1/2 by 2 pick x a a", "out a"))
        self.assertEqual(figures_by(graph), [None, None, None, None, 6])
        # By nought, too, has no figures.
        graph = graph_of(program_of("spring x 1", "brook a late 1/2 by 0 pick x a a", "out a"))
        self.assertEqual(figures_by(graph), [1, 1, 1, 6])

    def test_what_hangs_on_a_round(self):
        rows = ["spring x 1", "brook a late 0 by 1/2 pick x a a"]
        for text, awaited in [("sum x a", None), ("pick a x 1/2", 6), ("pick x a 1", None), ("pick x 1 a", None), ("half a", None),
                              ("by 2 a", None), ("late 1/2 a", None), ("pick a pick a 1/4 1/2 1/8", 3)]:
            graph = graph_of(program_of(*rows, "brook b " + text, "out b"))
            self.assertEqual(figures_by(graph)[0], awaited, text)
        # A round through a t alone is none that grows.
        graph = graph_of(program_of("spring x 1", "brook a late 0 by 1/2 pick a x 1/8", "out a"))
        self.assertEqual([node[0] for node in graph[0]], ["late", "by", "pick", "spring", "fixed"])
        self.assertEqual(figures_by(graph), [7, 7, 6, 6, 3])

    def test_many_products(self):
        nodes = tuple(("by", (1, 16), (at + 1,), 1) for at in range(99)) + (spring(),)
        self.assertEqual(figures_by((nodes, (("a", 0),)), fine=5), [4 * (99 - at) + 5 for at in range(100)])
        nodes = (spring(),) + tuple(("by", (1, 16), (at,), 1) for at in range(99))
        self.assertTrue(is_graph((nodes, (("a", 99),))))
        self.assertEqual(figures_by((nodes, (("a", 99),)), fine=5), [4 * at + 5 for at in range(100)])
        ring = tuple(("late", (at + 1, 1), ((at + 1) % 100,), 1) for at in range(99)) + (("by", ONE, (0,), 1),)
        self.assertEqual(figures_by((ring, (("a", 0),))), [0] * 100)
        ring = ring[:99] + (("by", HALF, (0,), 1),)
        self.assertEqual(figures_by((ring, (("a", 0),))), [None] * 100)
        wide = tuple(("late", (1, 2 ** at), ((at + 1) % 100,), 1) for at in range(100))
        self.assertEqual(figures_by((wide, (("a", 0),))), [99] * 100)

    def test_against_brute_force(self):
        seen = set()
        for graph in [graph_of(BIG), EACH, *some_graphs(301, 80), *some_tangled_graphs(303, 200)]:
            for fine in (0, 6):
                told = figures_by(graph, fine=fine)
                self.assertEqual(told, by_brute_force(graph, fine), graph)
                seen |= {type(one) for one in told}
        self.assertEqual(seen, {int, type(None)})

    def test_nothing_has_more(self):
        dice = random.Random(5)
        for graph in [*some_graphs(302, 40), *some_tangled_graphs(304, 60)]:
            nodes = graph[0]
            counts = figures_by(graph)
            springs = sorted({(node[1], node[3]) for node in nodes if node[0] == "spring"})
            told = graph_run((nodes, tuple((f"n{at}", at) for at in range(len(nodes)))), some_given(dice, springs, 20), 20)
            for count, numbers in zip(counts, told.values()):
                if count is not None:
                    self.assertLessEqual(max(figures_of(number) for number in numbers), count)

    def test_asked_twice(self):
        told = figures_by(EACH)
        told.clear()
        self.assertEqual(len(figures_by(EACH)), len(EACH[0]))
        self.assertEqual(figures_of(ZERO), 0)


if __name__ == "__main__":
    unittest.main()
