"""What shows that a CODE tells a graph's numbers. [15]"""

import random
import unittest

from brookworks.codecheck import shows_code
from brookworks.codes import code_of
from brookworks.graphs import alike_in, graph_of, is_graph
from tests import graphing
from tests.helpers import BIG, HALF, ONE, ZERO, program_of, spring
from tests.oracle import some_good_programs
from tests.spoiling import ODD, spoilt_things
from tests.test_codes import SWAPPED, TURNED, graph_with, some_graphs
from tests.test_graphs import EACH

ACC = graph_of(program_of("spring x 1", "brook a sum x late 0 a", "out a"))
ACC_CODE = (2, ((0, 2, ZERO),), ((("take", 1, "x"), ("sum", 0, 1, 0), ("give", "a", 0)),))


def renamed(code, homes, boxes):
    """The code with box homes[box] for each box."""
    _, kept, beats = code
    told = []
    for rows in beats:
        now = []
        for row in rows:
            first = {"take": 3, "fix": 3, "by": 3}.get(row[0], 2)
            head = row[:first] if row[0] == "give" or row[1] is None else (row[0], homes[row[1]], *row[2:first])
            now.append(head + tuple(homes[box] for box in row[first:]))
        told.append(tuple(now))
    return (boxes, tuple(sorted((homes[box], node, number) for box, node, number in kept)), tuple(told))


def with_rows(code, beat, rows):
    boxes, kept, beats = code
    return (boxes, kept, beats[:beat] + (tuple(rows),) + beats[beat + 1:])


class Shows(unittest.TestCase):
    def shown(self, graph, code):
        self.assertTrue(graphing.is_right_code(graph, code), code)
        self.assertIs(shows_code(graph, code), True, code)

    def refused(self, graph, code):
        self.assertFalse(graphing.is_right_code(graph, code), code)
        self.assertIs(shows_code(graph, code), False, code)

    def graphs(self):
        return [graph_of(BIG), EACH, SWAPPED, TURNED, ACC, *[graph_with(text) for text in (
            "x", "half half x", "sum x late 1 x", "twice late 1 half x", "pick x y 1", "most 3 0 half x",
            "late 1 twice half x", "sum half x half late 1 x", "by 1/2 twice half by 3 x")]]

    def test_of_code_of(self):
        for graph in [*self.graphs(), *some_graphs(101, 60), *graphing.some_tangled_graphs(106, 60)]:
            self.shown(graph, code_of(graph))

    def test_boxes_called_otherwise_and_more_of_them(self):
        dice = random.Random(7)
        for graph in [*self.graphs(), *some_graphs(102, 25)]:
            code = code_of(graph)
            for spare in (0, 1, 7):
                homes = dice.sample(range(code[0] + spare), code[0])
                self.shown(graph, renamed(code, homes, code[0] + spare))
            self.shown(graph, (10 ** 6, *code[1:]))
            self.refused(graph, (10 ** 6 + 1, *code[1:]))
            for boxes in (code[0] - 1, 0, -1, -code[0], None, True, (code[0], 1), str(code[0])):
                self.refused(graph, (boxes, *code[1:]))

    def test_with_copies_into_a_spare_box(self):
        for graph in [*self.graphs(), *some_graphs(103, 12)]:
            code = code_of(graph)
            more = (code[0] + 1, *code[1:])
            for beat, rows in enumerate(code[2]):
                for at in range(len(rows) + 1):
                    for box in range(code[0] + 1):
                        other = with_rows(more, beat, [*rows[:at], ("copy", code[0], box), *rows[at:]])
                        self.assertIs(shows_code(graph, other), graphing.is_right_code(graph, other))
                self.refused(graph, with_rows(code, beat, [*rows, ("copy", code[0], 0)]))

    def test_of_a_code_by_hand(self):
        self.shown(ACC, ACC_CODE)
        for rows in [
            (("take", 1, "x"), ("sum", 1, 0, 1)),
            (("take", 1, "x"), ("sum", 0, 0, 1), ("give", "a", 0)),
            (("take", 1, "x"), ("sum", 0, 1, 0)),
            (("take", 1, "x"), ("sum", 0, 1, 0), ("give", "a", 0), ("give", "a", 0)),
            (("take", 1, "x"), ("give", "a", 0), ("sum", 0, 1, 0)),
            (("take", 1, "x"), ("sum", 0, 1, 0), ("give", "a", 1)),
            (("take", 1, "x"), ("sum", 0, 1, 0), ("give", "b", 0)),
            (("take", 1, "x"), ("sum", 0, 1, 0), ("give", "a", 0), ("give", "x", 0)),
            (("sum", 0, 1, 0), ("give", "a", 0), ("take", 1, "x")),
            (("take", 1, "y"), ("sum", 0, 1, 0), ("give", "a", 0)),
            (("take", 1, "x"), ("take", None, "x"), ("sum", 0, 1, 0), ("give", "a", 0)),
            (("take", None, "x"), ("sum", 0, 1, 0), ("give", "a", 0)),
            (("take", None, "y"), ("take", 1, "x"), ("sum", 0, 1, 0), ("give", "a", 0)),
            (("take", 1, "x"), ("sum", 1, 1, 0), ("give", "a", 1)),
            (("take", 1, "x"), ("less", 0, 1, 0), ("give", "a", 0)),
            (("take", 1, "x"), ("sum", 0, 1, 0), ("give", "a", 0), ("copy", 0, 1)),
            (("take", 1, "x"), ("sum", 0, 1, 0), ("give", "a", 0), ("copy", 2, 1)),
            (("fix", 1, ONE), ("take", 1, "x"), ("sum", 0, 1, 0), ("give", "a", 0)),
            (("take", 0, "x"), ("sum", 0, 0, 0), ("give", "a", 0)),
            (),
        ]:
            self.refused(ACC, with_rows(ACC_CODE, 0, rows))
        for rows in [
            (("take", 1, "x"), ("sum", 1, 1, 0), ("copy", 0, 1), ("give", "a", 1)),
            (("take", 1, "x"), ("sum", 1, 1, 0), ("give", "a", 1), ("copy", 0, 1)),
            (("take", 1, "x"), ("sum", 0, 1, 0), ("copy", 1, 0), ("give", "a", 1)),
            (("take", 1, "x"), ("copy", 1, 1), ("sum", 0, 1, 0), ("copy", 0, 0), ("give", "a", 0)),
        ]:
            self.shown(ACC, with_rows(ACC_CODE, 0, rows))
        for kept in [(), ((1, 2, ZERO),), ((0, 2, ONE),), ((0, 2, None),), ((0, 1, ZERO),), ((0, 3, ZERO),),
                     ((0, 2, ZERO), (1, 2, ZERO)), ((0, 2, ZERO), (0, 2, ZERO)), [(0, 2, ZERO)], ([0, 2, ZERO],),
                     ((0, 2, (False, 1)),), ((0, 2, (0, True)),), ((False, 2, ZERO),), ((0, 2, [0, 1]),),
                     ((2, 2, ZERO),), ((-1, 2, ZERO),), None, ((0, 2, ZERO, 0),), ((0, -1, ZERO),)]:
            self.refused(ACC, (2, kept, ACC_CODE[2]))
        for beats in [(), ACC_CODE[2] * 2, [ACC_CODE[2][0]], (list(ACC_CODE[2][0]),), ACC_CODE[2] + ((),)]:
            self.refused(ACC, (2, ACC_CODE[1], beats))

    def test_kept_boxes_rise(self):
        for graph in (SWAPPED, graph_of(BIG), TURNED):
            boxes, kept, beats = code_of(graph)
            self.refused(graph, (boxes, kept[::-1], beats))
            self.refused(graph, (boxes, kept[1:], beats))
            self.refused(graph, (boxes, kept + kept[-1:], beats))
            self.refused(graph, (boxes, tuple((0, node, number) for _, node, number in kept), beats))

    def test_all_at_the_beginning_of_a_round_hold_nothing_but_lates(self):
        # What was written in the last beat of a round stands in no box at the next one's first.
        graph = graph_with("sum x late 1 x")
        self.assertEqual(code_of(graph)[0], 3)
        self.refused(graph, (3, ((0, 2, ONE),), ((("give", "a", 2), ("take", 1, "x"), ("sum", 2, 1, 0), ("copy", 0, 1)),)))
        # A twice's kept box holds nothing then, either.
        graph = graph_with("twice half x")
        right = (1, ((0, 0, None),), ((("take", 0, "x"), ("give", "a", 0)), (("take", None, "x"), ("give", "a", 0))))
        self.shown(graph, right)
        self.refused(graph, (1, right[1], ((("give", "a", 0), ("take", 0, "x")), right[2][1])))

    def test_within_a_round_boxes_hold_on(self):
        graph = graph_with("twice half x")
        # Box 1 holds the number that's told again at the next beat.
        self.shown(graph, (2, ((0, 0, None),), (
            (("take", 1, "x"), ("give", "a", 1)), (("take", None, "x"), ("give", "a", 1)))))
        self.refused(graph, (2, ((0, 0, None),), (
            (("take", 1, "x"), ("give", "a", 1)), (("take", 1, "x"), ("give", "a", 1)))))
        # A fixed's number of one beat is not that of the next one.
        graph = graph_with("sum 1 twice half x")
        rows = (("fix", 1, ONE), ("take", 0, "x"), ("sum", 2, 1, 0), ("give", "a", 2))
        self.shown(graph, (3, ((0, 2, None),), (rows, (("fix", 1, ONE), ("take", None, "x"), *rows[2:]))))
        self.refused(graph, (3, ((0, 2, None),), (rows, (("take", None, "x"), *rows[2:]))))

    def test_of_fixed_nodes_of_several_rates(self):
        graph = ((("sum", None, (1, 2), 1), ("twice", None, (3,), 1), ("fixed", ONE, (), 1), ("fixed", ONE, (), 2)),
                 (("a", 0), ("b", 3)))
        self.assertTrue(is_graph(graph) and alike_in(graph) == [])
        kept = ((0, 1, None),)
        second = (("fix", 1, ONE), ("sum", 1, 0, 1), ("give", "a", 1))
        # One box is for both at the beats at which both tell one.
        self.shown(graph, (2, kept, ((("fix", 0, ONE), ("give", "b", 0), ("sum", 1, 0, 0), ("give", "a", 1)), second)))
        self.shown(graph, code_of(graph))
        self.refused(graph, (2, kept, ((("fix", 0, (2, 1)), ("give", "b", 0), ("sum", 1, 0, 0), ("give", "a", 1)), second)))
        self.refused(graph, (2, kept, (
            (("fix", 0, ONE), ("give", "b", 0), ("sum", 1, 0, 0), ("give", "a", 1)),
            (("fix", 0, ONE), ("sum", 1, 0, 0), ("give", "a", 1)),
            (), ())))

    def test_of_one_sum_for_two_nodes(self):
        # The half of a sum's, and the sum of halves: told by one row.
        graph = graph_with("sum half sum x y sum half x half y")
        self.assertEqual(alike_in(graph), [])
        self.assertEqual([node[0] for node in graph[0]], ["sum", "half", "sum", "spring", "spring", "sum", "half", "half"])
        first = (("take", 0, "x"), ("take", 1, "y"), ("sum", 2, 0, 1), ("sum", 3, 2, 2), ("give", "a", 3))
        second = (("take", None, "x"), ("take", None, "y"))
        self.shown(graph, (4, (), (first, second)))
        self.refused(graph, (4, (), (first[:3] + (("sum", 3, 2, 0), ("give", "a", 3)), second)))
        # At the other beat the sum of period 1 tells one; nothing needs it.
        self.shown(graph, (4, (), (first, (("take", 0, "x"), ("take", 1, "y"), ("sum", 2, 0, 1)))))
        self.refused(graph, (4, (), (first, (("take", 0, "x"), ("take", 1, "y"), ("sum", 2, 0, 1), ("sum", 3, 2, 2)))))

    def test_args_in_order(self):
        graph = graph_with("pick x y less x y")
        rows = (("take", 0, "x"), ("take", 1, "y"), ("less", 2, 0, 1), ("pick", 2, 0, 1, 2), ("give", "a", 2))
        self.shown(graph, (3, (), (rows,)))
        for at, row in [(2, ("less", 2, 1, 0)), (3, ("pick", 2, 1, 0, 2)), (3, ("pick", 2, 0, 2, 1)),
                        (3, ("pick", 2, 0, 1)), (2, ("sum", 2, 0, 1)), (3, ("by", 2, ONE, 0)), (3, ("pick", 2, 0, 1, 3))]:
            self.refused(graph, (3, (), (rows[:at] + (row,) + rows[at + 1:],)))
        graph = graph_with("by 3 x")
        self.shown(graph, (1, (), ((("take", 0, "x"), ("by", 0, (3, 1), 0), ("give", "a", 0)),)))
        for number in [ONE, (6, 2), [3, 1], 3, (-3, 1), None]:
            self.refused(graph, (1, (), ((("take", 0, "x"), ("by", 0, number, 0), ("give", "a", 0)),)))

    def test_takes_at_their_beats(self):
        graph = graph_with("x", ("x", 2))
        self.shown(graph, (1, (), ((("take", 0, "x"), ("give", "a", 0)), ())))
        self.refused(graph, (1, (), ((("take", 0, "x"), ("give", "a", 0)), (("take", 0, "x"),))))
        self.refused(graph, (1, (), ((("take", 0, "x"), ("give", "a", 0)), (("take", None, "x"),))))
        self.refused(graph, (1, (), ((("take", 0, "x"), ("give", "a", 0)), (("give", "a", 0),))))
        self.refused(graph, (1, (), ((), (("take", 0, "x"), ("give", "a", 0)))))
        self.refused(graph, (1, (), ((("take", 0, "x"), ("take", 0, "x"), ("give", "a", 0)), ())))

    def test_rows_at_beats_at_which_their_nodes_tell_none(self):
        graph = graph_with("pick sum 1 x x x", ("x", 2))
        rows = (("fix", 0, ONE), ("take", 1, "x"), ("sum", 0, 0, 1), ("pick", 0, 0, 1, 1), ("give", "a", 0))
        self.shown(graph, (4, (), (rows, ())))
        self.shown(graph, (4, (), (rows, (("copy", 2, 1),))))
        for row in [("fix", 2, ONE), ("sum", 2, 0, 1), ("pick", 2, 0, 1, 1), ("take", 2, "x"), ("give", "a", 0)]:
            self.refused(graph, (4, (), (rows, (row,))))
        rows = (("fix", 0, ONE), ("take", 1, "x"), ("sum", 2, 0, 1), ("pick", 3, 2, 1, 1), ("give", "a", 3))
        self.shown(graph, (4, (), (rows, ())))
        for row in [("sum", 2, 0, 1), ("pick", 3, 2, 1, 1)]:
            self.refused(graph, (4, (), (rows, (row,))))

    def test_two_outs_of_one_node(self):
        graph = ((spring(),), (("a", 0), ("b", 0)))
        rows = (("take", 0, "x"), ("give", "a", 0), ("give", "b", 0))
        self.shown(graph, (1, (), (rows,)))
        for other in (rows[:2], rows[:2] + rows[1:2], rows + rows[2:], rows[::-1], ("take", 0, "x")):
            self.refused(graph, (1, (), (other,)))

    def test_a_number_in_several_boxes(self):
        graph = graph_with("less x late 1 x")
        for rows in [
            (("take", 1, "x"), ("copy", 2, 1), ("less", 1, 2, 0), ("copy", 0, 2), ("give", "a", 1)),
            (("take", 1, "x"), ("copy", 2, 0), ("copy", 0, 1), ("less", 1, 1, 2), ("give", "a", 1)),
        ]:
            self.shown(graph, (3, ((0, 2, ONE),), (rows,)))
        self.refused(graph, (3, ((0, 2, ONE),), (
            (("take", 1, "x"), ("copy", 0, 1), ("less", 1, 1, 0), ("give", "a", 1)),)))

    def test_lates_at_beats_of_the_round(self):
        # At beat 1 the late tells what x told at beat 0.
        graph = graph_with("sum late 5 x twice half x")
        self.assertEqual([node[0] for node in graph[0]], ["sum", "late", "spring", "twice", "half"])
        kept = ((0, 1, (5, 1)), (1, 3, None))
        first = (("take", 1, "x"), ("sum", 0, 0, 1), ("give", "a", 0))
        second = (("sum", 1, 1, 1), ("give", "a", 1), ("take", 0, "x"))
        self.shown(graph, (2, kept, (first, second)))
        self.refused(graph, (2, kept, (first, (("take", 0, "x"), ("sum", 1, 1, 1), ("give", "a", 1), ("copy", 0, 1)))))
        self.refused(graph, (2, kept, (first, (("sum", 1, 1, 0), ("give", "a", 1), ("take", 0, "x")))))
        self.refused(graph, (2, kept, (first, (("sum", 1, 1, 1), ("give", "a", 1), ("take", 1, "x")))))

    def test_each_row_out_twice_and_exchanged(self):
        dice = random.Random(8)
        for graph in [*self.graphs(), *some_graphs(104, 15), *graphing.some_tangled_graphs(107, 15)]:
            code = code_of(graph)
            others = []
            for beat, rows in enumerate(code[2]):
                for at, row in enumerate(rows):
                    others.append(with_rows(code, beat, rows[:at] + rows[at + 1:]))
                    others.append(with_rows(code, beat, rows[:at] + (row,) + rows[at:]))
                    other = dice.randrange(len(rows))
                    turned = list(rows)
                    turned[at], turned[other] = turned[other], turned[at]
                    others.append(with_rows(code, beat, turned))
                    for place, thing in enumerate(row):
                        if type(thing) is int:
                            changed = row[:place] + (dice.randrange(-1, code[0] + 1),) + row[place + 1:]
                            others.append(with_rows(code, beat, rows[:at] + (changed,) + rows[at + 1:]))
            shown = 0
            for other in others:
                awaited = graphing.is_right_code(graph, other)
                self.assertIs(shows_code(graph, other), awaited, other)
                shown += awaited
            self.assertLess(shown, len(others))

    def test_spoilt_anywhere(self):
        for graph in [ACC, SWAPPED, graph_with("half pick x y by 1/2 x"), graph_with("twice late 1 half x")]:
            for thing in spoilt_things(code_of(graph)):
                self.assertIs(shows_code(graph, thing), graphing.is_right_code(graph, thing), thing)
        self.assertIs(shows_code(ACC, ACC_CODE), True)

    def test_things_of_any_kind(self):
        deep = ()
        for _ in range(19):
            deep = (deep,)
        for thing in [*ODD, deep, (2, (), deep), (2, deep, ()), (2, (), (deep,)), (2, (), ((deep,),)),
                      (1, (), ((("sum", 0, deep, 0),),)), (1, (), ((([], 0),),)), (1, (), (((("sum",), 0),),)),
                      (1, (), ((("take", 0, ["x"]),),)), (1, (), ((("take", 0, ("x",)),),)), (1, (), ((("give", ["a"], 0),),)),
                      (1, ((0, [], ZERO),), ()), (2, ((0, 2, deep),), ACC_CODE[2]), "code", [2] * 8000, tuple([2] * 8000)]:
            for graph in (ACC, SWAPPED):
                self.refused(graph, thing)

    def test_of_another_graph(self):
        graphs = self.graphs()
        for graph in graphs:
            for other in graphs:
                code = code_of(other)
                self.assertIs(shows_code(graph, code), graphing.is_right_code(graph, code))
                self.assertIs(shows_code(graph, code), graph == other)

    def test_big_ones(self):
        chain = tuple(("late", (at, 1), ((at + 1) % 100,), 16) for at in range(100))
        self.shown((chain, (("a", 0),)), code_of((chain, (("a", 0),))))
        doubled = tuple(("sum", None, (at + 1, at + 1), 1) for at in range(99)) + (spring(),)
        self.shown((doubled, (("a", 0),)), code_of((doubled, (("a", 0),))))
        for program in some_good_programs(105, 25, 7):
            graph = graph_of(program)
            self.shown(graph, code_of(graph))

    def test_by_names(self):
        self.assertIs(shows_code(graph=ACC, thing=ACC_CODE), True)
        self.assertIs(shows_code(thing=ACC_CODE[:2], graph=ACC), False)
        self.assertEqual(HALF, (1, 2))


if __name__ == "__main__":
    unittest.main()
