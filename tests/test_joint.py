"""Papers of a device's run, and papers joined from end to end. [21]"""

import random
import unittest

from brookworks.codecheck import shows_code
from brookworks.codes import code_of
from brookworks.device import Device
from brookworks.errors import Dry, NotGiven, Small
from brookworks.figures import figures_by
from brookworks.graphs import graph_of, least_graph
from brookworks.joint import joined_of, outs_in, record_of, shows_joined, shows_record
from brookworks.lookpapers import look_paper
from brookworks.maps import map_of, shows_map
from brookworks.plain import plain_run
from tests import devices, graphing
from tests.helpers import BIG, HALF, ONE, X, ZERO, one_brook, program_of, spring, whole
from tests.oracle import check_refused_as_look_is, some_given, some_good_programs, worth
from tests.spoiling import ODD, spoilt_things
from tests.test_codes import SWAPPED, graph_with, some_graphs
from tests.test_codecheck import renamed
from tests.test_device import ACC, springs_of

BIG_CODE = code_of(graph_of(BIG))


def record_awaited(code, given, beats, wide, figures):
    """By [21] word by word, of a device of the tests' own; None where something doesn't fit."""
    if devices.first_small(code, wide, figures) is not None:
        return None
    boxes = devices.Boxes(code, given, wide, figures)
    record = []
    for beat in range(beats):
        ahead = {name: list(numbers) for name, numbers in boxes.rest.items()}
        outs = boxes.step()
        if isinstance(outs, int):
            return None
        for name in sorted(ahead):
            taken = len(ahead[name]) - len(boxes.rest[name])
            record += [(beat, "in", name, number) for number in ahead[name][:taken]]
        record += [(beat, "out", name, number) for name, number in outs]
    return record


def is_record(code, thing, wide, figures):
    """Whether it's one of any number of beats that's told by what it has of springs itself."""
    if type(thing) is not list or devices.first_small(code, wide, figures) is not None:
        return False
    given = {row[2]: [] for rows in code[2] for row in rows if row[0] == "take"}
    for row in thing:
        if type(row) is tuple and len(row) == 4 and row[1] == "in" and type(row[1]) is str and type(row[2]) is str and row[2] in given:
            number = row[3]
            if not graphing.is_number(number) or abs(worth(number)) > 999 or number[1] > 64:
                return False
            given[row[2]].append(number)
    for beats in range(65):
        try:
            record = record_awaited(code, given, beats, wide, figures)
        except IndexError:
            return False
        if record is None or len(record) > len(thing):
            return False
        if repr(record) == repr(thing):
            return True
    return False


class Records(unittest.TestCase):
    def test_by_hand(self):
        program = program_of("spring x 1", "spring b 2", "brook c late 5 x", "brook a by 1/2 half x", "brook d sum a b", "out d", "out c")
        code = code_of(graph_of(program))
        given = {"x": [(3, 4), (1, 1), (7, 1), (1, 64)], "b": whole(2, 4, 6)}
        self.assertEqual(record_of(code, given, 3, figures=1), [
            (0, "in", "b", (2, 1)), (0, "in", "x", (3, 4)), (0, "out", "c", (5, 1)), (0, "out", "d", (2, 1)),
            (1, "in", "x", ONE), (1, "out", "c", HALF),
            (2, "in", "b", (4, 1)), (2, "in", "x", (7, 1)), (2, "out", "c", ONE), (2, "out", "d", (15, 2))])
        self.assertEqual(record_of(code, given, 0), [])
        self.assertEqual(record_of(code=code, given=given, beats=1)[3], (0, "out", "d", (19, 8)))

    def test_dropped_ones_are_in_it_as_told(self):
        code = code_of(graph_with("half x"))
        self.assertEqual(record_of(code, {"x": [ONE, (999, 64)]}, 2, wide=2, figures=0), [
            (0, "in", "x", ONE), (0, "out", "a", ONE), (1, "in", "x", (999, 64))])

    def test_against_devices(self):
        dice = random.Random(21)
        for graph in [graph_of(BIG), SWAPPED, *some_graphs(701, 80)]:
            code = code_of(graph)
            beats, wide, figures = dice.choice([0, 1, 6, 20]), dice.choice([6, 20, 60]), dice.choice([0, 1, 8])
            given = some_given(dice, springs_of(graph), beats, dice.choice([0, 3]))
            kept = repr(given)
            awaited = record_awaited(code, given, beats, wide, figures)
            if awaited is None:
                with self.assertRaises(Small) as caught:
                    record_of(code, given, beats, wide=wide, figures=figures)
                with self.assertRaises(Small) as again:
                    device = Device(code, wide=wide, figures=figures)
                    for name in given:
                        device.feed(name, given[name])
                    device.run(beats)
                self.assertEqual(caught.exception.place, again.exception.place)
                continue
            self.assertEqual(record_of(code, given, beats, wide=wide, figures=figures), awaited)
            self.assertEqual(repr(given), kept)
            self.assertIs(shows_record(code, awaited, wide=wide, figures=figures), True)

    def test_not_given(self):
        for given, beats, name in [
            ({}, 0, "x"), ({"x": []}, 0, "y"), ({"x": whole(1, 2), "y": []}, 1, "y"), ({"x": whole(1), "y": []}, 2, "x"),
            ({"x": whole(1, 2, 3), "y": whole(1)}, 3, "y"), ({"x": tuple(whole(1)), "y": whole(1)}, 1, "x"), ({"y": whole(1)}, 1, "x"),
        ]:
            with self.assertRaises(NotGiven) as caught:
                record_of(BIG_CODE, given, beats)
            self.assertEqual(caught.exception.name, name)
            with self.assertRaises(NotGiven) as caught:
                joined_of(BIG, given, beats)
            self.assertEqual(caught.exception.name, name)
        self.assertEqual(record_of(BIG_CODE, {"x": [], "y": [], "z": None}, 0), [])
        # Springs that aren't taken don't matter; such as are only dropped do.
        self.assertEqual(record_of(code_of(graph_with("x")), {"x": whole(1)}, 1)[0], (0, "in", "x", ONE))
        with self.assertRaises(NotGiven):
            record_of((1, (), ((("take", None, "x"),),)), {}, 0)

    def test_not_given_goes_ahead_of_small(self):
        late = code_of(graph_with("late 99 x"))
        with self.assertRaises(NotGiven):
            record_of(late, {}, 0, wide=4)
        with self.assertRaises(Small) as caught:
            record_of(late, {"x": []}, 0, wide=4)
        self.assertEqual(caught.exception.place[0], "kept")
        with self.assertRaises(NotGiven):
            joined_of(one_brook(("late", (99, 1), X), ("x", 1)), {"x": []}, 1, wide=4)
        with self.assertRaises(Small) as caught:
            record_of(ACC, {"x": whole(3, 3, 3)}, 3, wide=4, figures=0)
        self.assertEqual(caught.exception.place, (2, 1))
        with self.assertRaises(Small):
            joined_of(program_of("spring x 1", "brook a x", "out a"), {"x": whole(9)}, 1, wide=4, figures=0)

    def test_told_anew(self):
        given = {"x": whole(1, 2), "y": whole(3)}
        told = record_of(BIG_CODE, given, 2)
        again = record_of(BIG_CODE, given, 2)
        self.assertEqual(told, again)
        told.clear()
        self.assertEqual(record_of(BIG_CODE, given, 2), again)


class ShowsRecord(unittest.TestCase):
    def test_cut_anywhere(self):
        record = record_of(BIG_CODE, {"x": whole(1, 2, 3, 4), "y": whole(5, 6)}, 4)
        ends = {len([row for row in record if row[0] < beats]) for beats in range(5)}
        for at in range(len(record) + 1):
            self.assertIs(shows_record(BIG_CODE, record[:at]), at in ends)
            self.assertIs(shows_record(BIG_CODE, record[at:]), at in (0, len(record)))
            self.assertIs(shows_record(BIG_CODE, record[:at] + record[at + 1:]), False if at < len(record) else True)
        self.assertIs(shows_record(BIG_CODE, record + record[-1:]), False)
        self.assertIs(shows_record(BIG_CODE, record + record), False)

    def test_spoilt_at_any_entry(self):
        for code, given, beats, wide, figures in [
            (ACC, {"x": [HALF, (3, 4)]}, 2, 6, 1), (BIG_CODE, {"x": whole(1, 2), "y": whole(3)}, 2, 24, 8),
            (code_of(graph_with("half x")), {"x": [ONE, (-3, 64), ONE]}, 3, 4, 0),
        ]:
            record = record_of(code, given, beats, wide=wide, figures=figures)
            for thing in spoilt_things(record, 4):
                awaited = is_record(code, thing, wide, figures)
                self.assertIs(shows_record(code, thing, wide=wide, figures=figures), awaited, thing)
            self.assertIs(shows_record(code, record, wide=wide, figures=figures), True)

    def test_things_of_any_kind(self):
        deep = []
        for _ in range(19):
            deep = [deep]
        for thing in [*ODD, deep, tuple(deep), [(0, "in", "x", ONE)], [(0, "in", "x")], [(0, "in", ["x"], ONE), (0, "out", "a", ONE)],
                      [[0, "in", "x", ONE], (0, "out", "a", ONE)], ["in"] * 8000, [(0, "out", "a", ONE), (0, "in", "x", ONE)]]:
            for code in (ACC, BIG_CODE):
                self.assertIs(shows_record(code, thing), type(thing) is list and thing == [], thing)

    def test_kinds_within(self):
        record = [(0, "in", "x", ONE), (0, "out", "a", ONE)]
        self.assertIs(shows_record(ACC, record), True)
        for other in [
            [(False, "in", "x", ONE), (0, "out", "a", ONE)], [(0, "in", "x", (True, 1)), (0, "out", "a", ONE)],
            [(0, "in", "x", ONE), (0, "out", "a", (1, True))], [(0, "in", "x", [1, 1]), (0, "out", "a", ONE)],
            [(0, "in", "x", ONE), [0, "out", "a", ONE]], tuple(record), [(0, "in", "x", (2, 2)), (0, "out", "a", ONE)],
        ]:
            self.assertIs(shows_record(ACC, other), False)

    def test_numbers_beyond_those_of_springs(self):
        for number, shown in [((999, 1), True), ((1000, 1), False), ((-999, 1), True), ((-1000, 1), False), ((1, 64), True),
                              ((1, 128), False), ((63937, 64), False), ((63935, 64), True)]:
            record = record_of(ACC, {"x": [number]}, 1)
            self.assertIs(shows_record(ACC, record), shown)
            dropped = (1, (), ((("take", None, "x"),),))
            self.assertIs(shows_record(dropped, [(0, "in", "x", number)]), shown)

    def test_64_beats_and_65(self):
        given = {"x": whole(*range(70))}
        for code in (ACC, code_of(graph_with("x"))):
            self.assertIs(shows_record(code, record_of(code, given, 64)), True)
            self.assertIs(shows_record(code, record_of(code, given, 65)), False)
        # Where nothing is told at the 65th beat its record is that of 64 beats.
        code = (1, (), ((("take", 0, "x"), ("give", "a", 0)), *[()] * 2))
        self.assertEqual(len(record_of(code, given, 66)), 44)
        self.assertIs(shows_record(code, record_of(code, given, 66)), True)
        self.assertIs(shows_record(code, record_of(code, given, 67)), False)

    def test_devices_that_cannot_begin(self):
        late = code_of(graph_with("late 99 x"))
        self.assertIs(shows_record(late, []), True)
        self.assertIs(shows_record(late, [], wide=4), False)
        record = record_of(late, {"x": [ONE]}, 1)
        self.assertIs(shows_record(late, record), True)
        self.assertIs(shows_record(late, record, wide=8), False)
        self.assertIs(shows_record(late, record, wide=16), True)

    def test_what_does_not_fit_is_no_run(self):
        code = code_of(graph_with("sum x x"))
        record = [(0, "in", "x", (4, 1)), (0, "out", "a", (8, 1))]
        self.assertIs(shows_record(code, record, wide=5, figures=0), True)
        self.assertIs(shows_record(code, record, wide=4, figures=0), False)
        self.assertIs(shows_record(code, record[:1], wide=4, figures=0), False)

    def test_by_the_figures(self):
        record = record_of(ACC, {"x": [HALF, HALF]}, 2, figures=0)
        self.assertEqual(record[1], (0, "out", "a", ZERO))
        self.assertIs(shows_record(ACC, record, figures=0), True)
        self.assertIs(shows_record(ACC, record), False)
        self.assertIs(shows_record(thing=record, code=ACC, wide=9, figures=0), True)
        self.assertEqual(len(record), 4)

    def test_beats_without_rows(self):
        code = (1, (), ((), (("take", 0, "x"), ("give", "a", 0))))
        record = record_of(code, {"x": whole(1, 2)}, 4)
        self.assertEqual(record, [(1, "in", "x", ONE), (1, "out", "a", ONE), (3, "in", "x", (2, 1)), (3, "out", "a", (2, 1))])
        self.assertIs(shows_record(code, record), True)
        self.assertIs(shows_record(code, record[:2]), True)
        self.assertIs(shows_record(code, record[2:]), False)
        self.assertIs(shows_record((0, (), ((),)), []), True)
        self.assertIs(shows_record((0, (), ((),)), [(64, "out", "a", ONE)]), False)


class Joined(unittest.TestCase):
    def joined(self, program, beats=4, **bounds):
        given = some_given(random.Random(1), program[0], beats)
        return given, joined_of(program, given, beats, **bounds)

    def test_refused_as_look_is(self):
        check_refused_as_look_is(self, 702, lambda program: joined_of(program, {}, 1))

    def test_parts(self):
        given, thing = self.joined(BIG)
        graph = graph_of(BIG)
        self.assertEqual(thing, (look_paper(BIG), map_of(BIG), graph, code_of(graph), record_of(code_of(graph), given, 4)))
        self.assertEqual([type(part) for part in (thing, *thing)], [tuple, tuple, list, tuple, tuple, list])
        self.assertIs(shows_joined(BIG, thing), True)
        self.assertIs(shows_joined(thing=thing, program=BIG), True)
        self.assertEqual(outs_in(thing=thing), {name: plain_run(BIG, given, 4)[name] for name in BIG[2]})

    def test_of_some_programs(self):
        dice = random.Random(31)
        others = []
        for program in some_good_programs(703, 60):
            beats = dice.choice([0, 1, 5, 16])
            given = some_given(dice, program[0], beats)
            graph = graph_of(program)
            figures = max([0 if count is None else count for count in figures_by(graph)])
            exact = None not in figures_by(graph)
            thing = joined_of(program, given, beats, wide=5000, figures=figures)
            self.assertIs(shows_joined(program, thing, wide=5000, figures=figures), True)
            told = plain_run(program, given, beats)
            if exact:
                self.assertEqual(outs_in(thing), {name: told[name] for name in program[2]})
            self.assertEqual({name: len(numbers) for name, numbers in outs_in(thing).items()}, {name: len(told[name]) for name in program[2]})
            for other, paper, bounds in others[-3:]:
                if other != program:
                    self.assertIs(shows_joined(program, paper, **bounds), False)
                    # With any one part of the other's it's no more one, but where that part is the same.
                    for at in range(4):
                        mixed = (*thing[:at], paper[at], *thing[at + 1:])
                        if paper[at] != thing[at]:
                            self.assertIs(shows_joined(program, mixed, wide=5000, figures=figures), False)
            others.append((program, thing, {"wide": 5000, "figures": figures}))

    def test_each_part_spoilt(self):
        program = program_of("spring x 1", "brook a sum x late 0 a", "brook b half a", "out b")
        given, thing = self.joined(program, 2)
        self.assertIs(shows_joined(program, thing), True)
        for at in range(5):
            shown = 0
            for other in spoilt_things(thing[at], 4):
                if repr(other) == repr(thing[at]):
                    continue
                mixed = (*thing[:at], other, *thing[at + 1:])
                so = shows_joined(program, mixed)
                self.assertIn(so, (True, False))
                shown += so
                if so:
                    # Papers that are as right: a code with another box, a record of no beats.
                    self.assertIn(at, (3, 4), other)
            self.assertLess(shown, 30)
        for other in [*ODD, thing[:4], (*thing, None), list(thing), thing[::-1]]:
            self.assertIs(shows_joined(program, other), False)

    def test_other_papers_that_are_as_right(self):
        program = program_of("spring x 1", "brook a sum x late 0 a", "brook b half x", "brook c by 2 x", "out a", "out b")
        given, thing = self.joined(program, 6)
        paper, pairs, graph, code, record = thing
        orders = (paper[0], ["c", "b", "a"])
        self.assertIs(shows_joined(program, (orders, pairs, graph, code, record)), True)
        other = renamed(code, list(range(code[0]))[::-1], code[0])
        self.assertIs(shows_joined(program, (paper, pairs, graph, other, record)), True)
        self.assertIs(shows_joined(program, (paper, pairs, graph, code, record_of(code, given, 3))), True)
        self.assertIs(shows_joined(program, (paper, pairs, graph, code, record), figures=2), False)
        order = list(range(len(graph[0])))[::-1]
        turned = graphing.called_anew(graph, order)
        homes = {node: at for at, node in enumerate(order)}
        moved = [(place, homes[node]) for place, node in pairs]
        self.assertIs(shows_joined(program, (paper, moved, turned, code_of(turned), record)), True)
        self.assertIs(shows_joined(program, (paper, pairs, turned, code_of(turned), record)), False)
        self.assertIs(shows_joined(program, (paper, moved, turned, code, record)), False)

    def test_graphs_with_alike_nodes(self):
        program = one_brook(("sum", X, X), ("x", 1))
        twice = ((("sum", None, (1, 2), 1), spring(), spring()), (("a", 0),))
        self.assertEqual(least_graph(twice), graph_of(program))
        given, thing = self.joined(program, 1)
        pairs = [(("a", (0,)), 1), (("a", (1,)), 2), (("a", ()), 0)]
        self.assertIs(shows_joined(program, (thing[0], pairs, twice, thing[3], thing[4])), False)
        # Though the code shows what such a graph tells.
        code = (3, (), ((("take", 0, "x"), ("take", 1, "x"), ("sum", 2, 0, 1), ("give", "a", 2)),))
        self.assertIs(shows_code(twice, code), True)
        record = record_of(code, {"x": whole(1, 2)}, 1)
        self.assertIs(shows_record(code, record), True)
        self.assertIs(shows_map(program, twice, pairs), True)
        self.assertIs(shows_joined(program, (thing[0], pairs, twice, code, record)), False)
        for other in [None, (), ((), ()), ([], []), (thing[2][0], ()), (list(thing[2][0]), thing[2][1])]:
            self.assertIs(shows_joined(program, (thing[0], thing[1], other, thing[3], thing[4])), False)

    def test_where_look_is_refused(self):
        _, thing = self.joined(BIG)
        for program in [one_brook(("sum", X, ("half", X)), ("x", 1)), one_brook(("name", "a")), one_brook(("fixed", ONE)),
                        one_brook(("twice", X), ("x", 1))]:
            self.assertIs(shows_joined(program, thing), False)

    def test_outs_in(self):
        program = program_of("spring x 1", "brook a x", "brook b half x", "out b", "out a")
        given, thing = self.joined(program, 0)
        self.assertEqual(outs_in(thing), {"b": [], "a": []})
        thing = joined_of(program, {"x": whole(1, 2, 3)}, 3)
        told = outs_in(thing)
        self.assertEqual(told, {"b": whole(1, 3), "a": whole(1, 2, 3)})
        told["b"].clear()
        told.clear()
        self.assertEqual(outs_in(thing), {"b": whole(1, 3), "a": whole(1, 2, 3)})
        # An out that is called like a spring in the graph's.
        renamed_outs = (thing[0], thing[1], (thing[2][0], (("x", 0),)), thing[3], [(0, "in", "x", ONE), (0, "out", "x", HALF)])
        self.assertEqual(outs_in(renamed_outs), {"x": [HALF]})

    def test_told_anew(self):
        given, thing = self.joined(BIG)
        again = joined_of(beats=4, given=given, program=BIG)
        self.assertEqual(thing, again)
        for part in (thing[0][0], thing[0][1], thing[1], thing[4]):
            part.clear()
        self.assertEqual(joined_of(BIG, given, 4), again)
        self.assertRaises(Dry, lambda: Device(BIG_CODE).step())

    def test_many_boxes(self):
        # More lates than a code's boxes are where none are told.
        chain = X
        for _ in range(7):
            chain = ("late", ZERO, chain)
        program = ((("x", 1),), tuple((name, ("sum", chain, ("late", ONE, ("name", name)))) for name in "abcdef"), ("a", "b", "c"))
        _, thing = self.joined(program, 3)
        self.assertIs(shows_joined(program, thing), True)


if __name__ == "__main__":
    unittest.main()
