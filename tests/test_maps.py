"""Maps from PLACEs to nodes. [13]"""

import random
import unittest

from brookworks.graphs import graph_of
from brookworks.looks import look
from brookworks.maps import map_of, shows_map
from brookworks.programs import is_program, places_of
from brookworks.terms import part_at
from tests import graphing
from tests.helpers import A, BIG, FIX, ONE, X, Y, ZERO, halves, one_brook, program_of, spring
from tests.oracle import REFUSED, check_refused_as_look_is, some_good_programs
from tests.spoiling import ODD, spoilt_things


# Windows, names of names, a brook that nothing uses, and rounds.
MIXED = program_of(
    "spring x 1", "spring y 2",
    "brook a b", "brook b sum most 3 0 x c", "brook c late 1 over 2 0 d", "brook d twice y",
    "brook e late 0 sum d e", "out a", "out b",
)


def own_nodes(program):
    """A graph in which each PLACE, but those of brooks' names, has a node of its own, and the map to it."""
    graph, pairs = graph_of(program), map_of(program)
    dice = random.Random(1)
    nodes = {}
    for place, node in pairs:
        nodes[place] = graph[0][node]
    brooks = dict(program[1])
    rows, names, homes = [], {}, {}

    def part_of(place):
        return part_at(brooks[place[0]], place[1])

    def home(place):
        part = part_of(place)
        while part[0] == "name" and part[1] in brooks:
            place = (part[1], ())
            part = part_of(place)
        return place

    for place, _ in pairs:
        if home(place) == place:
            names[place] = len(rows)
            rows.append(None)
    for place, node in pairs:
        homes[place] = names[home(place)]
        if home(place) != place:
            continue
        part = part_of(place)
        many = {"sum": 2, "less": 2, "pick": 3, "fixed": 0, "name": 0}.get(part[0], 1)
        within = [names[home((place[0], place[1] + (at,)))] for at in range(many)]
        word, what, args, period = graph[0][node]
        if part[0] not in ("most", "least", "over"):
            rows[names[place]] = (word, what, tuple(within), period)
            continue
        joined = within[0]
        for long in range(2, part[1] + 1):
            late = within[0]
            # A row of lates of its own for each step.
            for _ in range(long - 1):
                rows.append(("late", part[2], (late,), period))
                late = len(rows) - 1
            if long == part[1]:
                rows[names[place]] = (word, None, (joined, late), period)
            else:
                rows.append((word, None, (joined, late), period))
                joined = len(rows) - 1
    made = (tuple(rows), tuple((out, homes[(out, ())]) for out in program[2]))
    order = dice.sample(range(len(rows)), len(rows))
    return graphing.called_anew(made, order), [(place, order.index(homes[place])) for place, _ in pairs]


class MapOf(unittest.TestCase):
    def test_big(self):
        self.assertEqual(map_of(BIG), [
            (("acc", (0,)), 1), (("acc", (1, 0)), 0), (("acc", (1,)), 2), (("acc", ()), 0), (("thin", (0,)), 0),
            (("thin", ()), 7), (("both", (0,)), 7), (("both", (1,)), 8), (("both", ()), 6), (("thick", (0, 0)), 6),
            (("thick", (0,)), 4), (("thick", ()), 3),
        ])
        self.assertEqual(map_of(program=BIG), map_of(BIG))

    def test_of_brooks_come_to_alone(self):
        self.assertEqual({name for (name, _), _ in map_of(MIXED)}, set("abcd"))
        self.assertEqual(map_of(MIXED), [
            (("a", ()), 0), (("b", (0, 0)), 3), (("b", (0,)), 1), (("b", (1,)), 6), (("b", ()), 0),
            (("c", (0, 0)), 8), (("c", (0,)), 7), (("c", ()), 6), (("d", (0,)), 9), (("d", ()), 8),
        ])
        program = program_of("spring x 1", "brook a x", "brook b x", "brook c late 0 b", "out c")
        self.assertEqual(map_of(program), [(("b", ()), 1), (("c", (0,)), 1), (("c", ()), 0)])

    def test_is_shown(self):
        for program in [BIG, MIXED, *some_good_programs(81, 200)]:
            pairs = map_of(program)
            brooks = graphing.brooks_come_to(program)
            self.assertEqual([place for place, _ in pairs], [place for place in places_of(program) if place[0] in brooks])
            self.assertTrue(graphing.is_map(program, graph_of(program), pairs))
            self.assertIs(shows_map(program, graph_of(program), pairs), True)

    def test_refused_as_look_is(self):
        check_refused_as_look_is(self, 82, map_of)

    def test_what_is_told_is_the_askers_own(self):
        told, again = map_of(BIG), map_of(BIG)
        self.assertIsNot(told, again)
        self.assertEqual((type(told), {type(pair) for pair in told}), (list, {tuple}))
        told.clear()
        self.assertEqual(map_of(BIG), again)


class ShowsMap(unittest.TestCase):
    def test_nodes_of_their_own(self):
        many = 0
        for program in [BIG, MIXED, *some_good_programs(83, 120)]:
            graph, pairs = own_nodes(program)
            many += len(graph[0]) > len(graph_of(program)[0])
            self.assertTrue(graphing.is_map(program, graph, pairs))
            self.assertIs(shows_map(program=program, graph=graph, thing=pairs), True)
            self.assertIs(shows_map(program, graph_of(program), pairs), pairs == map_of(program))
        self.assertGreater(many, 40)

    def test_called_in_another_order(self):
        dice = random.Random(3)
        for program in [BIG, MIXED, *some_good_programs(84, 60)]:
            graph = graph_of(program)
            order = dice.sample(range(len(graph[0])), len(graph[0]))
            pairs = [(place, order.index(node)) for place, node in map_of(program)]
            self.assertIs(shows_map(program, graphing.called_anew(graph, order), pairs), True)

    def test_spoilt_maps(self):
        for program in (BIG, MIXED, one_brook(X), one_brook(("sum", X, ("late", ZERO, A)))):
            for graph, pairs in [(graph_of(program), map_of(program)), own_nodes(program)]:
                for thing in spoilt_things(pairs):
                    self.assertIs(shows_map(program, graph, thing), graphing.is_map(program, graph, thing), thing)

    def test_other_nodes(self):
        for program in (BIG, MIXED, *some_good_programs(85, 6)):
            for graph, pairs in [(graph_of(program), map_of(program)), own_nodes(program)]:
                for at, (place, node) in enumerate(pairs):
                    for other in range(-1, len(graph[0]) + 1):
                        thing = pairs[:at] + [(place, other)] + pairs[at + 1:]
                        self.assertIs(shows_map(program, graph, thing), graphing.is_map(program, graph, thing))

    def test_other_graphs(self):
        dice = random.Random(4)
        shown = 0
        for program in (BIG, MIXED, *some_good_programs(86, 60)):
            graph, pairs = dice.choice([(graph_of(program), map_of(program)), own_nodes(program)])
            for _ in range(60):
                at = dice.randrange(len(graph[0]))
                word, what, args, period = graph[0][at]
                nodes = [number for number, node in enumerate(graph[0]) if args and node[3] == graph[0][args[0]][3]]
                row = dice.choice([
                    (word, what, tuple(dice.choice(nodes) for _ in args), period),
                    (word, what, args[::-1], period),
                    ({"sum": "less", "most": "least", "late": "by", "by": "late"}.get(word, word), what, args, period),
                    (word, (7, 8) if type(what) is tuple else what, args, period),
                    (word, "zz" if type(what) is str else what, args, period),
                ])
                other = (graph[0][:at] + (row,) + graph[0][at + 1:], graph[1])
                if graphing.is_graph(other):
                    told = shows_map(program, other, pairs)
                    self.assertIs(told, graphing.is_map(program, other, pairs), (program, other))
                    shown += told
        self.assertGreater(shown, 10)

    def test_outs(self):
        graph, pairs = graph_of(BIG), map_of(BIG)
        nodes, outs = graph
        self.assertEqual(outs, (("acc", 0), ("thick", 3), ("both", 6)))
        for other in (
            outs[::-1], outs[:2], outs + (("thin", 7),), (("acc", 0), ("thin", 7), ("both", 6)),
            (("thick", 0), ("acc", 3), ("both", 6)), (("acc", 0), ("thick", 6), ("both", 3)), (("acc", 0), ("thick", 3), ("b", 6)),
        ):
            self.assertIs(shows_map(BIG, (nodes, other), pairs), False)
        self.assertIs(shows_map(BIG, graph, pairs), True)
        # The same brooks, other outs.
        self.assertIs(shows_map((BIG[0], BIG[1], ("thick", "acc", "both")), graph, pairs), False)

    def test_windows(self):
        program = one_brook(("most", 3, ONE, X), ("x", 1))
        graph, pairs = graph_of(program), map_of(program)
        self.assertEqual(graph[0], (
            ("most", None, (1, 4), 1), ("most", None, (2, 3), 1), spring(), ("late", ONE, (2,), 1),
            ("late", ONE, (3,), 1)))
        self.assertIs(shows_map(program, graph, pairs), True)
        for other in (("most", 2, ONE, X), ("most", 4, ONE, X), ("most", 3, ZERO, X), ("least", 3, ONE, X), ("over", 3, ONE, X)):
            self.assertIs(shows_map(one_brook(other, ("x", 1)), graph, pairs), False)
        for at, row in [
            (0, ("most", None, (4, 1), 1)), (0, ("most", None, (1, 3), 1)), (0, ("least", None, (1, 4), 1)),
            (0, ("most", None, (2, 4), 1)), (1, ("most", None, (3, 2), 1)), (1, ("least", None, (2, 3), 1)),
            (1, ("most", None, (2, 4), 1)), (1, ("most", None, (3, 3), 1)), (3, ("late", ZERO, (2,), 1)),
            (4, ("late", ZERO, (3,), 1)), (4, ("late", ONE, (2,), 1)), (4, ("by", ONE, (3,), 1)), (3, ("by", ONE, (2,), 1)),
            (4, ("late", ONE, (4,), 1)), (2, spring("y")),
        ]:
            other = (graph[0][:at] + (row,) + graph[0][at + 1:], graph[1])
            self.assertIs(shows_map(program, other, pairs), False, row)

    def test_a_window_of_what_is_late_of_itself(self):
        program = program_of("spring x 1", "brook a sum x most 4 1 b", "brook b late 1 sum b less x x", "out a")
        self.assertTrue(is_program(program))
        self.assertIs(shows_map(program, graph_of(program), map_of(program)), True)

    def test_periods(self):
        # The same nodes at another rate.
        program = one_brook(("late", ONE, X), ("x", 2))
        self.assertIs(shows_map(program, graph_of(program), map_of(program)), True)
        self.assertIs(shows_map(program, graph_of(one_brook(("late", ONE, X), ("x", 1))), map_of(program)), False)
        self.assertIs(shows_map(one_brook(("late", ONE, X), ("x", 1)), graph_of(program), map_of(program)), False)

    def test_programs_that_cannot_be_looked_at(self):
        for program in (
            one_brook(FIX), one_brook(A), one_brook(halves(5, X)), one_brook(("sum", X, Y), ("x", 1), ("y", 2)),
            program_of("spring x 1", "brook a x", "brook b b", "out a"),
        ):
            self.assertRaises(REFUSED, look, program)
            for graph in (graph_of(one_brook(X)), ((("fixed", ONE, (), 1),), (("a", 0),))):
                for thing in [[(("a", ()), 0)], [], *ODD]:
                    self.assertIs(shows_map(program, graph, thing), False)

    def test_things_of_any_kind(self):
        graph = graph_of(BIG)
        pairs = map_of(BIG)
        for thing in ODD:
            for other in (thing, [thing], [thing] * len(pairs), (thing, thing), pairs + [thing], pairs[:-1] + [thing],
                          [(thing, 0)] * len(pairs), [(place, thing) for place, _ in pairs]):
                self.assertIs(shows_map(BIG, graph, other), False)
        self.assertIs(shows_map(BIG, graph, tuple(pairs)), False)
        self.assertIs(shows_map(BIG, graph, [list(pair) for pair in pairs]), False)
        single = one_brook(X, ("x", 1))
        self.assertIs(shows_map(single, graph_of(single), [(("a", ()), 0)]), True)
        self.assertIs(shows_map(single, graph_of(single), [(("a", ()), False)]), False)
        self.assertIs(shows_map(single, graph_of(single), [(("a", []), 0)]), False)
        self.assertIs(shows_map(single, graph_of(single), [(["a", ()], 0)]), False)


if __name__ == "__main__":
    unittest.main()
