"""CODEs of graphs. [14]"""

import random
import unittest
from fractions import Fraction

from brookworks.codes import code_of, work_of
from brookworks.errors import TooFew
from brookworks.graphs import alike_in, graph_of, graph_run, is_graph
from brookworks.limits import MOST_BOXES
from brookworks.texts import term_in
from tests import graphing
from tests.helpers import A, BIG, ONE, X, ZERO, one_brook, program_of, spring
from tests.oracle import as_number, some_given, some_good_programs, worth
from tests.test_graphs import EACH


def graph_with(text, *springs):
    return graph_of(one_brook(term_in(text), *springs))


# Two lates that swap, three that go round, each told.
SWAPPED = ((("late", ONE, (1,), 2), ("late", ZERO, (0,), 2)), (("a", 0), ("b", 1)))
TURNED = (
    (("sum", None, (1, 4), 1), ("late", ONE, (2,), 1), ("late", ZERO, (3,), 1), ("late", (5, 1), (1,), 1),
     ("twice", None, (5,), 1), ("half", None, (3,), 2)),
    (("a", 0), ("b", 2)))


def is_rising(kept):
    return all(one[0] < other[0] for one, other in zip(kept, kept[1:]))


def run_of(code, given, beats):
    """What a device of boxes tells by a code, with Python's own fractions: the dict from each out to its list."""
    boxes, kept, rounds = code
    holds = {box: None if number is None else worth(number) for box, _, number in kept}
    rest = {name: list(numbers) for name, numbers in given.items()}
    told = {}
    for beat in range(beats):
        for row in rounds[beat % len(rounds)]:
            read = [holds[box] for box in graphing.read_by(row)]
            word = row[0]
            if word == "give":
                told.setdefault(row[1], []).append((beat, as_number(read[0])))
                continue
            if word == "take":
                come = worth(rest[row[2]].pop(0))
            elif word == "fix":
                come = worth(row[2])
            elif word == "by":
                come = worth(row[2]) * read[0]
            elif word == "pick":
                come = read[1] if read[0] > 0 else read[2]
            else:
                come = {
                    "sum": sum, "less": lambda some: some[0] - some[1], "most": max, "least": min,
                    "copy": lambda some: some[0],
                }[word](read)
            assert isinstance(come, Fraction)
            if row[1] is not None:
                holds[row[1]] = come
    assert all(not numbers for numbers in rest.values())
    return told


def some_graphs(seed, many):
    """Graphs without alike nodes, called in any order, as well as those of programs."""
    dice = random.Random(seed)
    for program in some_good_programs(seed, many):
        graph = graph_of(program)
        yield graph
        yield graphing.called_anew(graph, dice.sample(range(len(graph[0])), len(graph[0])))


class Codes(unittest.TestCase):
    def right(self, graph):
        """Each row by a look at one round; then two rounds, and some more, against graph_run."""
        self.assertEqual(alike_in(graph), [])
        code = code_of(graph)
        boxes, kept, beats = code
        self.assertEqual([type(thing) for thing in (code, boxes, kept, beats)], [tuple, int, tuple, tuple])
        for row in [*kept, *beats, *[row for rows in beats for row in rows]]:
            self.assertIs(type(row), tuple)
        self.assertEqual(graphing.code_faults(graph, code), [], (graph, code))
        self.assertTrue(is_rising(kept))
        self.assertEqual(sorted((node, number) for _, node, number in kept if number), [
            (at, node[1]) for at, node in enumerate(graph[0]) if node[0] == "late"])
        self.assertEqual(sorted(node for _, node, number in kept if number is None), [
            at for at, node in enumerate(graph[0]) if node[0] == "twice"])
        long = max(node[3] for node in graph[0])
        self.assertEqual(len(beats), long)
        self.assertEqual(work_of(code), graphing.work_awaited(code))
        self.assertEqual(boxes, len(kept) + work_of(code))
        beats = 2 * long + 3
        springs = {(node[1], node[3]) for node in graph[0] if node[0] == "spring"}
        given = some_given(random.Random(len(graph[0])), sorted(springs), beats)
        told = run_of(code, given, beats)
        awaited = graph_run(graph, given, beats)
        for name, node in graph[1]:
            period = graph[0][node][3]
            self.assertEqual(told[name], [(at * period, number) for at, number in enumerate(awaited[name])])
        self.assertEqual(set(told), set(awaited))
        return code

    def test_each_word(self):
        self.assertIs(is_graph(EACH), True)
        self.right(EACH)
        for text in [
            "x", "sum x y", "sum x x", "less x 1/2", "by 3 x", "pick x y 1", "late 2 x", "half x", "half half x",
            "half late 1 x", "late 1 half x", "twice half x", "half twice half x", "twice twice half half x",
            "most 2 0 x", "least 3 1 x", "over 5 1/2 x", "twice late 1 half x", "late 1 twice half x",
            "late 1 late 2 late 3 x", "half most 3 0 twice half late 7 x", "sum half x half late 1 x",
            "sum x twice half x",
        ]:
            with self.subTest(text):
                self.right(graph_with(text))

    def test_rounds(self):
        for graph in (SWAPPED, TURNED, ((("late", ONE, (0,), 4),), (("a", 0),))):
            self.assertIs(is_graph(graph), True)
            self.right(graph)
        for rows in [
            ("spring x 1", "brook a sum x late 0 a", "out a"),
            ("spring x 1", "brook a late 1 b", "brook b late 2 c", "brook c late 3 sum a less x x", "out a", "out b"),
            ("spring x 1", "brook a late 1 b", "brook b late 2 sum a x", "out b"),
            ("spring x 2", "brook a sum x late 0 half b", "brook b twice late 1 a", "out b", "out a"),
            ("spring x 16", "spring y 1", "brook a sum y late 1 twice twice twice twice x", "out a"),
        ]:
            self.right(graph_of(program_of(*rows)))

    def test_lates_that_turn_round(self):
        for many in (2, 3, 4, 5):
            lates = tuple(("late", (at, 1), ((at + 1) % many,), 2) for at in range(many))
            code = self.right((lates, tuple((name, at) for at, name in zip(range(many), "abc"))))
            # One box in which a number is laid aside.
            self.assertEqual(code[0], many + 1)
        two = tuple(("late", (at, 1), (at ^ 1,), 1) for at in range(4))
        self.assertEqual(self.right((two, (("a", 0), ("b", 2))))[0], 5)

    def test_of_some_graphs(self):
        for graph in some_graphs(91, 200):
            self.right(graph)

    def test_of_big_ones(self):
        for graph in [
            tuple(("late", (at, 1), (at + 1,), 1) for at in range(99)) + (spring(),),
            tuple(("by", (at * 2 + 1, 2), (at + 1,), 16) for at in range(99)) + (spring("x", 16),),
            tuple(("sum", None, (at + 1, min(at + 2, 60)), 1) for at in range(60)) + (spring(),),
        ]:
            graph = (graph, (("a", 0),))
            self.assertIs(is_graph(graph), True)
            self.right(graph)
        chain = tuple(("late", (at, 1), ((at + 1) % 100,), 1) for at in range(100))
        self.assertEqual(self.right((chain, (("a", 0),)))[0], 101)

    def test_springs_dropped_where_none_needs_them(self):
        _, _, beats = code_of(graph_with("half half x"))
        self.assertEqual([rows[0][:1] + rows[0][2:] for rows in beats], [("take", "x")] * 4)
        self.assertEqual([rows[0][1] is None for rows in beats], [False, True, True, True])

    def test_work(self):
        self.assertEqual(work_of(code_of(graph_with("x"))), 1)
        # A sum's box may be one that it reads.
        self.assertEqual(work_of(code_of(graph_with("by 2 by 3 by 4 x"))), 1)
        self.assertEqual(work_of(code_of(graph_with("sum x y"))), 2)
        self.assertEqual(work_of(code_of(((("late", ONE, (0,), 1),), (("a", 0),)))), 0)
        self.assertEqual(work_of(code=code_of(graph_with("late 1 x"))), 1)

    def test_work_of_rows_in_any_order(self):
        kept = ((0, 0, ONE), (3, 1, None))
        for rows, awaited in [
            ((), 0),
            ((("take", 1, "x"),), 0),
            ((("take", 1, "x"), ("give", "a", 1)), 1),
            ((("take", 0, "x"), ("give", "a", 0)), 0),
            ((("take", 1, "x"), ("take", 2, "y"), ("give", "a", 1)), 1),
            ((("take", 1, "x"), ("take", 2, "y"), ("sum", 1, 1, 2), ("give", "a", 1)), 2),
            ((("take", 1, "x"), ("take", 1, "x"), ("give", "a", 1)), 1),
            ((("take", 1, "x"), ("take", 2, "y"), ("take", 1, "z"), ("sum", 4, 1, 2), ("give", "a", 4)), 2),
            ((("take", None, "x"), ("fix", 1, ONE), ("fix", 2, ONE), ("fix", 4, ONE), ("pick", 5, 1, 2, 4),
              ("give", "a", 5)), 3),
            ((("fix", 1, ONE), ("by", 2, ONE, 1), ("copy", 4, 1), ("sum", 1, 2, 4), ("give", "a", 1)), 2),
            # What was written in another beat does not count.
            ((("give", "a", 1), ("give", "b", 2)), 0),
            ((("sum", 1, 1, 2), ("give", "a", 1)), 1),
            ((("give", "a", 1), ("take", 1, "x")), 0),
            ((("take", 2, "x"), ("give", "a", 1), ("give", "a", 2), ("fix", 1, ONE)), 1),
            ((("fix", 1, ONE), ("give", "b", 3), ("copy", 3, 1), ("give", "b", 3), ("give", "a", 1)), 1),
        ]:
            for beats in [(rows,), ((), rows), (rows, ()), (rows, (("fix", 1, ONE), ("give", "a", 1)))]:
                code = (6, kept, beats)
                self.assertEqual(work_of(code), graphing.work_awaited(code), beats)
            self.assertEqual(work_of((6, kept, (rows,))), awaited, rows)

    def test_with_fewer_boxes(self):
        for graph in [graph_of(BIG), SWAPPED, graph_with("x"), EACH, *some_graphs(92, 15)]:
            code = code_of(graph)
            need = code[0]
            for boxes in range(need):
                with self.assertRaises(TooFew) as caught:
                    code_of(graph, boxes=boxes)
                self.assertIs(type(caught.exception), TooFew)
                self.assertEqual(caught.exception.need, need)
            for boxes in (need, need + 1, 2 * need, MOST_BOXES, 10 ** 6):
                self.assertEqual(code_of(graph, boxes=boxes), code)
        self.assertRaises(TypeError, lambda: code_of(graph_of(BIG), 120))
        self.assertEqual(MOST_BOXES, 120)

    def test_with_no_boxes_named(self):
        # 150 lates need more than are let where none are named.
        lates = tuple(("late", (at, 1), ((at + 1) % 150,), 1) for at in range(150))
        with self.assertRaises(TooFew) as caught:
            code_of((lates, (("a", 0),)))
        self.assertEqual(caught.exception.need, 151)
        self.assertEqual(code_of((lates, (("a", 0),)), boxes=151)[0], 151)
        lates = tuple(("late", (at, 1), ((at + 1) % 119,), 1) for at in range(119))
        self.assertEqual(code_of((lates, (("a", 0),)))[0], 120)

    def test_asked_twice(self):
        for graph in (graph_of(BIG), EACH, SWAPPED):
            self.assertEqual(code_of(graph), code_of(graph=graph, boxes=100))

    def test_beats_of_the_round(self):
        self.assertEqual(len(code_of(graph_of(BIG))[2]), 2)
        self.assertEqual(len(code_of(graph_with("half half half half x"))[2]), 16)
        self.assertEqual(len(code_of(SWAPPED)[2]), 2)
        self.assertEqual(code_of(SWAPPED)[2][1], ())
        self.assertEqual(len(code_of(graph_of(one_brook(("sum", X, ("late", ZERO, A)))))[2]), 1)


if __name__ == "__main__":
    unittest.main()
