"""How late a spring's number is told. [18]"""

import random
import unittest

from brookworks.errors import NoOut, NotGiven, TooMany
from brookworks.graphs import graph_of, graph_run, is_graph
from brookworks.limits import MOST_WAYS
from brookworks.texts import term_in
from brookworks.ways import felt_by, lates_of, least_way, shows_way
from tests.graphing import flat_graph, some_tangled_graphs
from tests.helpers import BIG, HALF, ONE, ZERO, program_of, spring, whole
from tests.oracle import some_given
from tests.spoiling import ODD, spoilt_things
from tests.test_codes import SWAPPED, TURNED, graph_with, some_graphs
from tests.test_device import springs_of
from tests.test_graphs import EACH


def all_ways(graph, name, out, most=2000):
    """All ways on which no node stands twice; None of more than most."""
    nodes = graph[0]
    found = []

    def walk(way):
        if len(found) > most:
            return
        if nodes[way[-1]][0] == "spring":
            if nodes[way[-1]][1] == name:
                found.append(way)
            return
        for arg in sorted(set(nodes[way[-1]][2])):
            if arg not in way:
                walk(way + [arg])

    walk([dict(graph[1])[out]])
    return None if len(found) > most else found


def beats_of(graph, way):
    return sum(graph[0][node][3] for node in way if graph[0][node][0] == "late")


def is_way(graph, name, out, thing):
    """By [18] word by word."""
    if type(thing) is not tuple or len(thing) != 2 or type(thing[0]) is not int or type(thing[1]) is not list:
        return False
    beats, way = thing
    if not way or not all(type(node) is int and 0 <= node < len(graph[0]) for node in way):
        return False
    if way[0] != dict(graph[1])[out] or graph[0][way[-1]][:2] != ("spring", name):
        return False
    return all(arg in graph[0][node][2] for node, arg in zip(way, way[1:])) and beats == beats_of(graph, way)


def diamonds(many):
    """A graph with two ways through each of so many, and so 2 ** many ways."""
    nodes = []
    for at in range(many):
        first = 3 * at
        nodes += [("sum", None, (first + 1, first + 2), 1), ("late", ONE, (first + 3,), 1), ("late", ZERO, (first + 3,), 1)]
    return (tuple(nodes) + (spring(),), (("a", 0),))


def fan(many):
    """A graph of so many ways, each later than the one ahead."""
    nodes = []
    for at in range(many):
        nodes.append(("sum", None, (many + at, at + 1), 1) if at < many - 1 else ("late", ONE, (many + at,), 1))
    for at in range(many):
        nodes.append(("late", (at, 1), (many + at - 1,), 1) if at else spring())
    return (tuple(nodes), (("a", 0),))


class Ways(unittest.TestCase):
    def no_out(self, ask, out):
        with self.assertRaises(NoOut) as caught:
            ask()
        self.assertIs(type(caught.exception), NoOut)
        self.assertEqual(caught.exception.out, out)

    def graphs(self):
        return [graph_of(BIG), EACH, SWAPPED, TURNED, *some_graphs(501, 40), *some_tangled_graphs(502, 150)]

    def test_by_hand(self):
        graph = ((spring(),), (("a", 0),))
        self.assertEqual(least_way(graph, "x", "a"), (0, [0]))
        self.assertIsNone(least_way(graph, "y", "a"))
        self.assertIsNone(least_way(graph, "a", "a"))
        graph = flat_graph(term_in("sum late 1 late 2 x sum y late 3 y"))
        self.assertEqual(least_way(graph, "x", "a"), (2, [0, 1, 2, 3]))
        self.assertEqual(least_way(graph, "y", "a")[0], 0)
        self.assertEqual(lates_of(graph, "y", "a"), [0, 1])
        self.assertEqual(lates_of(graph, "x", "a"), [2])
        self.assertEqual(lates_of(graph, "z", "a"), [])
        # In beats, not in numbers.
        graph = graph_with("late 1 half late 2 half late 3 x")
        self.assertEqual(least_way(graph, "x", "a"), (7, [0, 1, 2, 3, 4, 5]))
        graph = graph_with("twice late 1 half x")
        self.assertEqual(least_way(graph, "x", "a"), (2, [0, 1, 2, 3]))
        graph = graph_with("late 1 x", ("x", 16))
        self.assertEqual(least_way(graph, "x", "a"), (16, [0, 1]))

    def test_least_of_several(self):
        graph = flat_graph(term_in("sum late 1 late 2 x sum late 3 x late 4 late 5 late 6 x"))
        self.assertEqual(least_way(graph, "x", "a")[0], 1)
        self.assertEqual(lates_of(graph, "x", "a"), [1, 2, 3])
        # The way with the fewest nodes isn't the least late.
        nodes = (("sum", None, (1, 2), 1), ("late", ONE, (5,), 1), ("by", HALF, (3,), 1), ("by", ONE, (4,), 1), ("by", ZERO, (5,), 1), spring())
        self.assertEqual(least_way((nodes, (("a", 0),)), "x", "a"), (0, [0, 2, 3, 4, 5]))
        # A pick's t is an arg, too.
        self.assertEqual(least_way(flat_graph(term_in("pick x late 1 y y")), "x", "a"), (0, [0, 1]))

    def test_against_all_ways(self):
        for graph in self.graphs():
            for out, _ in graph[1]:
                for name in ["x", "y", "z", "b"]:
                    ways = all_ways(graph, name, out)
                    told = least_way(graph, name, out)
                    if not ways:
                        self.assertIsNone(told)
                        self.assertEqual(lates_of(graph, name, out), [])
                        continue
                    self.assertTrue(is_way(graph, name, out, told))
                    self.assertIs(shows_way(graph, name, out, told), True)
                    self.assertEqual(told[0], min(beats_of(graph, way) for way in ways))
                    if len(ways) <= 300:
                        self.assertEqual(lates_of(graph, name, out), sorted({beats_of(graph, way) for way in ways}))
                    for way in ways[:50]:
                        self.assertIs(shows_way(graph, name, out, (beats_of(graph, way), way)), True)
                        self.assertIs(shows_way(graph, name, out, (beats_of(graph, way) + 1, way)), False)
                        self.assertIs(shows_way(graph, name, out, (beats_of(graph, way), way[1:])), False)
                        self.assertIs(shows_way(graph, name, out, (beats_of(graph, way), way[:-1])), False)

    def test_ways_round_and_round(self):
        # a is x and what a was: any number of times round.
        graph = graph_of(program_of("spring x 2", "brook a sum x late 0 a", "out a"))
        self.assertEqual([node[0] for node in graph[0]], ["sum", "spring", "late"])
        for times in range(9):
            self.assertIs(shows_way(graph, "x", "a", (2 * times, [0, 2] * times + [0, 1])), True)
            self.assertIs(shows_way(graph, "x", "a", (2 * times + 2, [0, 2] * times + [0, 1])), False)
            self.assertIs(shows_way(graph, "x", "a", (2 * times, [2, 0] * times + [0, 1])), times == 0)
        self.assertEqual(least_way(graph, "x", "a"), (0, [0, 1]))
        self.assertEqual(lates_of(graph, "x", "a"), [0])

    def test_alike_springs(self):
        graph = ((("sum", None, (1, 2), 1), ("late", ONE, (3,), 1), spring(), spring()), (("a", 0),))
        self.assertTrue(is_graph(graph))
        self.assertEqual(least_way(graph, "x", "a"), (0, [0, 2]))
        self.assertEqual(lates_of(graph, "x", "a"), [0, 1])
        self.assertIs(shows_way(graph, "x", "a", (1, [0, 1, 3])), True)
        self.assertIs(shows_way(graph, "x", "a", (1, [0, 1, 2])), False)
        graph = ((("sum", None, (1, 3), 1), ("late", ONE, (2,), 1), spring(), spring()), (("a", 0),))
        self.assertEqual(least_way(graph, "x", "a"), (0, [0, 3]))
        # One node with the same arg twice: one way.
        graph = ((("sum", None, (1, 1), 1), spring()), (("a", 0),))
        self.assertEqual(all_ways(graph, "x", "a"), [[0, 1]])
        self.assertEqual(lates_of(graph, "x", "a"), [0])

    def test_spoilt_ways(self):
        for graph, name, out in [(graph_of(BIG), "x", "thick"), (EACH, "y", "b"), (((spring(),), (("a", 0),)), "x", "a")]:
            told = least_way(graph, name, out)
            for thing in [*spoilt_things(told), *ODD]:
                self.assertIs(shows_way(graph, name, out, thing), is_way(graph, name, out, thing), thing)
            self.assertIs(shows_way(graph, name, out, told), True)
            self.assertIs(shows_way(graph, "q", out, told), False)
            for thing in [(0, []), [0, told[1]], (told[0], tuple(told[1])), told[1], (told[0], told[1], 0), (told[0],), None]:
                self.assertIs(shows_way(graph, name, out, thing), False)
        graph = graph_of(BIG)
        self.assertIs(shows_way(graph, "x", "acc", least_way(graph, "x", "thick")), False)
        self.assertIs(shows_way(graph, "y", "thick", least_way(graph, "x", "thick")), False)

    def test_true_is_no_number(self):
        graph = graph_with("late 1 x")
        self.assertIs(shows_way(graph, "x", "a", (1, [0, 1])), True)
        for thing in [(True, [0, 1]), (1, [False, 1]), (1, [0, True]), (1, [0, -1]), (1, [0, 1, 1])]:
            self.assertIs(shows_way(graph, "x", "a", thing), False)

    def test_no_out(self):
        graph = graph_of(BIG)
        for out in ("x", "thin", "", "a"):
            for name in ("x", "q"):
                self.no_out(lambda: least_way(graph, name, out), out)
                self.no_out(lambda: lates_of(graph, name, out), out)
                for thing in [None, (0, [0]), least_way(graph, "x", "acc")]:
                    self.no_out(lambda: shows_way(graph, name, out, thing), out)
        # Ahead of too many.
        self.no_out(lambda: lates_of(diamonds(12), "x", "b"), "b")

    def test_many_ways(self):
        self.assertEqual(MOST_WAYS, 300)
        self.assertEqual(lates_of(diamonds(8), "x", "a"), [8])
        for graph in (diamonds(9), diamonds(33)):
            with self.assertRaises(TooMany) as caught:
                lates_of(graph, "x", "a")
            self.assertIs(type(caught.exception), TooMany)
            self.assertEqual(caught.exception.most, 300)
            self.assertEqual(least_way(graph, "x", "a")[0], len(graph[0]) // 3)
            self.assertEqual(lates_of(graph, "y", "a"), [])

    def test_300_and_301_ways(self):
        def with_ways(more):
            """256 ways by diamonds, 44 or 45 beside by a fan."""
            nodes = list(diamonds(8)[0])
            first = len(nodes)
            outs = fan(more)[0]
            nodes = [(word, what, tuple(arg + len(outs) + 1 for arg in args), period) for word, what, args, period in nodes]
            moved = [(word, what, tuple(arg + 1 for arg in args), period) for word, what, args, period in outs]
            graph = ((("sum", None, (1, len(outs) + 1), 1), *moved, *nodes), (("a", 0),))
            self.assertEqual(len(graph[0]), 1 + len(outs) + first)
            return graph

        graph = with_ways(44)
        self.assertEqual(len(all_ways(graph, "x", "a")), 300)
        self.assertEqual(lates_of(graph, "x", "a"), sorted({beats_of(graph, way) for way in all_ways(graph, "x", "a")}))
        graph = with_ways(45)
        self.assertEqual(len(all_ways(graph, "x", "a")), 301)
        self.assertRaises(TooMany, lambda: lates_of(graph, "x", "a"))

    def test_dead_ends_are_no_ways(self):
        # Ways that never come to x are without number; one way does.
        nodes = [("sum", None, (1, 98), 1)]
        for at in range(32):
            first = 3 * at + 1
            nodes += [("sum", None, (first + 1, first + 2), 1), ("late", ONE, (first + 3,), 1), ("late", ZERO, (first + 3,), 1)]
        nodes += [spring("y"), spring("x")]
        graph = (tuple(nodes), (("a", 0),))
        self.assertEqual(lates_of(graph, "x", "a"), [0])
        self.assertEqual(least_way(graph, "x", "a"), (0, [0, 98]))
        # All lead round to one another, none out of it.
        ring = [("sum", None, (1, 60), 1)]
        ring += [("most", None, (at + 1, 30 + at), 1) for at in range(1, 29)] + [("by", ONE, (30,), 1)]
        ring += [("late", (at, 1), (at - 29 if at > 30 else 1,), 1) for at in range(30, 60)] + [spring("x")]
        graph = (tuple(ring), (("a", 0),))
        self.assertEqual(lates_of(graph, "x", "a"), [0])

    def test_told_lists_are_the_askers_own(self):
        graph = graph_of(BIG)
        told = least_way(graph, "x", "thick")
        again = least_way(out="thick", name="x", graph=graph)
        self.assertEqual(told, again)
        told[1].clear()
        self.assertEqual(least_way(graph, "x", "thick"), again)
        lates = lates_of(out="thick", name="x", graph=graph)
        lates.append(9)
        self.assertNotEqual(lates_of(graph, "x", "thick"), lates)
        thing = (again[0], list(again[1]))
        self.assertIs(shows_way(thing=thing, out="thick", graph=graph, name="x"), True)
        self.assertEqual(thing, again)


class FeltBy(unittest.TestCase):
    def test_by_hand(self):
        graph = graph_of(program_of("spring x 1", "brook a late 5 half x", "brook b by 0 x", "brook c x", "out b", "out a", "out c"))
        given = {"x": whole(1, 2, 3, 4, 5)}
        self.assertEqual(felt_by(graph, given, "x", 0, (7, 1), 5), [("a", 2), ("c", 0)])
        self.assertEqual(felt_by(graph, given, "x", 1, (7, 1), 5), [("c", 1)])
        self.assertEqual(felt_by(graph, given, "x", 2, (7, 1), 5), [("a", 4), ("c", 2)])
        self.assertEqual(felt_by(graph, given, "x", 2, (7, 1), 4), [("c", 2)])
        self.assertEqual(felt_by(graph, given, "x", 2, (3, 1), 5), [])
        self.assertEqual(given, {"x": whole(1, 2, 3, 4, 5)})

    def test_the_first_beat_at_which_it_differs(self):
        graph = flat_graph(term_in("sum late 0 x by -1 late 0 late 0 x"))
        given = {"x": whole(0, 0, 0, 0, 0)}
        self.assertEqual(felt_by(graph, given, "x", 1, ONE, 5), [("a", 2)])
        graph = graph_with("most 3 0 x")
        # At its own beat it's less than what's told then.
        self.assertEqual(felt_by(graph, {"x": whole(5, 1, 3, 0, 0)}, "x", 2, (4, 1), 5), [("a", 3)])

    def test_against_runs(self):
        dice = random.Random(12)
        felt = 0
        for graph in [graph_of(BIG), EACH, TURNED, *some_graphs(503, 60), *some_tangled_graphs(504, 60)]:
            springs = springs_of(graph)
            beats = dice.choice([1, 5, 12, 20])
            given = some_given(dice, springs, beats, dice.choice([0, 2]))
            for name, period in springs:
                number = dice.randrange(-(-beats // period))
                other = dice.choice([ZERO, (5, 4), (-99, 1)])
                told = felt_by(graph, given, name, number, other, beats)
                changed = {**given, name: given[name][:number] + [other] + given[name][number + 1:]}
                one, two = graph_run(graph, given, beats), graph_run(graph, changed, beats)
                awaited = []
                for out, node in graph[1]:
                    unlike = [at for at in range(len(one[out])) if one[out][at] != two[out][at]]
                    if unlike:
                        awaited.append((out, unlike[0] * graph[0][node][3]))
                self.assertEqual(told, awaited)
                for out, beat in told:
                    felt += 1
                    self.assertGreaterEqual(beat, number * period + least_way(graph, name, out)[0])
        self.assertGreater(felt, 40)

    def test_not_given(self):
        graph = graph_with("sum x y")
        for given, name in [({"x": whole(1), "y": []}, "y"), ({"x": [], "y": []}, "x"), ({"x": whole(1)}, "y"), ({"y": whole(1)}, "x")]:
            with self.assertRaises(NotGiven) as caught:
                felt_by(graph, given, "x", 0, ONE, 1)
            self.assertEqual(caught.exception.name, name)

    def test_asked_twice(self):
        graph = graph_of(BIG)
        given = {"x": whole(1, 2), "y": whole(3)}
        told = felt_by(graph, given, "y", 0, ZERO, 2)
        again = felt_by(beats=2, other=ZERO, number=0, name="y", given=given, graph=graph)
        self.assertEqual(told, again)
        told.clear()
        self.assertEqual(felt_by(graph, given, "y", 0, ZERO, 2), again)
        self.assertEqual(given, {"x": whole(1, 2), "y": whole(3)})


if __name__ == "__main__":
    unittest.main()
