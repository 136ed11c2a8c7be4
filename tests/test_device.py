"""A device of boxes. [16]"""

import random
import unittest

from brookworks.codes import code_of
from brookworks.device import Device, device_of
from brookworks.errors import Dry, NoSpring, Small
from brookworks.graphs import graph_of, graph_run
from brookworks.limits import FIGURES, WIDE
from tests import devices
from tests.helpers import BIG, HALF, ONE, ZERO, program_of, spring, whole
from tests.oracle import as_number, some_given, some_good_programs
from tests.test_codes import SWAPPED, TURNED, graph_with, some_graphs
from tests.test_graphs import EACH

ACC = code_of(graph_of(program_of("spring x 1", "brook a sum x late 0 a", "out a")))


def springs_of(graph):
    return sorted({(node[1], node[3]) for node in graph[0] if node[0] == "spring"})


def fed(code, given, **bounds):
    device = Device(code, **bounds)
    for name, numbers in given.items():
        device.feed(name, numbers)
    return device


def of_rows(*rows, kept=(), boxes=9, **given):
    """A Device of one beat's rows."""
    bounds = {name: given.pop(name) for name in ("wide", "figures") if name in given}
    return fed((boxes, kept, (rows,)), given, **bounds)


class Check(unittest.TestCase):
    def small(self, place, ask):
        with self.assertRaises(Small) as caught:
            ask()
        self.assertIs(type(caught.exception), Small)
        self.assertEqual(caught.exception.place, place)
        self.assertEqual([type(one) for one in caught.exception.place], [type(one) for one in place])

    def dry(self, name, ask):
        with self.assertRaises(Dry) as caught:
            ask()
        self.assertIs(type(caught.exception), Dry)
        self.assertEqual(caught.exception.name, name)


class Steps(Check):
    def test_figures_enough_tell_what_the_graph_tells(self):
        dice = random.Random(1)
        for graph in [graph_of(BIG), EACH, SWAPPED, TURNED, *some_graphs(201, 60)]:
            beats = dice.choice([1, 7, 20])
            given = some_given(dice, springs_of(graph), beats)
            # As wide as may be, more than the bounds tell: rounds of sums grow fast.
            device = fed(code_of(graph), given, wide=4000, figures=200)
            rows = device.run(beats)
            awaited = graph_run(graph, given, beats)
            told = {name: [number for row in rows for out, number in row if out == name] for name in awaited}
            periods = {name: graph[0][node][3] for name, node in graph[1]}
            self.assertEqual([[name for name, _ in row] for row in rows], [
                sorted(name for name in periods if beat % periods[name] == 0) for beat in range(beats)])
            self.assertEqual(told, awaited)
            self.assertEqual([device.left(name) for name in given], [[] for _ in given])

    def test_against_fractions(self):
        dice = random.Random(2)
        smalls = set()
        for graph in [graph_of(BIG), EACH, SWAPPED, TURNED, *some_graphs(202, 150)]:
            code = code_of(graph)
            wide, figures, beats = dice.choice([2, 5, 9, 16, 60]), dice.choice([0, 1, 2, 5, 8, 30]), dice.choice([5, 12])
            given = some_given(dice, springs_of(graph), beats)
            box = devices.first_small(code, wide, figures)
            if box is not None:
                self.small(("kept", box), lambda: Device(code, wide=wide, figures=figures))
                smalls.add("kept")
                continue
            device = fed(code, given, wide=wide, figures=figures)
            awaited = devices.Boxes(code, given, wide, figures)
            for beat in range(beats):
                self.assertEqual((device.beat(), len(device)), (beat, beat))
                rows = awaited.step()
                if isinstance(rows, int):
                    smalls.add("step")
                    kept = device.like()
                    self.small((beat, rows), device.step)
                    self.assertEqual((device, device.image()), (kept, kept.image()))
                    ahead = fed(code, given, wide=wide, figures=figures)
                    again = ahead.like()
                    self.small((beat, rows), lambda: ahead.run(beats))
                    self.assertEqual(ahead, again)
                    break
                self.assertEqual(device.step(), rows)
                told = [as_number(awaited.holds[box]) if box in awaited.holds else None for box in range(code[0])]
                self.assertEqual(device.boxes(), told)
                self.assertEqual({name: device.left(name) for name in given}, awaited.rest)
        self.assertEqual(smalls, {"kept", "step"})

    def test_cuts_by_hand(self):
        for number, awaited in [
            ((-1, 8), (-1, 4)), ((1, 8), ZERO), ((7, 8), (3, 4)), ((-1, 4), (-1, 4)), ((-9, 64), (-1, 4)), (ONE, ONE),
        ]:
            device = of_rows(("take", 0, "x"), ("give", "a", 0), wide=8, figures=2, x=[number])
            self.assertEqual(device.step(), [("a", awaited)])
        self.assertEqual(of_rows(("fix", 0, (-5, 16)), ("give", "a", 0), figures=2).step(), [("a", (-1, 2))])
        self.assertEqual(of_rows(("fix", 0, (5, 16)), ("give", "a", 0), figures=2).step(), [("a", (1, 4))])

    def test_products_are_cut_sums_are_not(self):
        rows = (("take", 0, "x"), ("by", 1, (-1, 2), 0), ("by", 2, (3, 16), 0), ("sum", 3, 0, 0), ("sum", 4, 1, 2),
                ("less", 5, 1, 2), ("give", "a", 1), ("give", "b", 2), ("give", "c", 3), ("give", "d", 4), ("give", "e", 5))
        # x is cut to 3/4, half of it below nought is -3/8, cut to -1/2; 9/64 is cut to nought.
        self.assertEqual(of_rows(*rows, figures=2, x=[(15, 16)]).step(), [
            ("a", (-1, 2)), ("b", ZERO), ("c", (3, 2)), ("d", (-1, 2)), ("e", (-1, 2))])
        # -3/4: 3/8 is cut to 1/4, -9/64 to -1/4.
        self.assertEqual(of_rows(*rows, figures=2, x=[(-11, 16)]).step(), [
            ("a", (1, 4)), ("b", (-1, 4)), ("c", (-3, 2)), ("d", ZERO), ("e", HALF)])
        self.assertEqual(of_rows(*rows, figures=0, x=[(-1, 64)]).step(), [
            ("a", ZERO), ("b", (-1, 1)), ("c", (-2, 1)), ("d", (-1, 1)), ("e", ONE)])

    def test_choices_by_what_is_cut(self):
        rows = (("take", 0, "x"), ("take", 1, "y"), ("pick", 2, 0, 0, 1), ("most", 3, 0, 1), ("least", 4, 0, 1), ("copy", 5, 3),
                ("give", "p", 2), ("give", "m", 3), ("give", "l", 4), ("give", "c", 5))
        # 1/8 is cut to nought, which is not above it.
        told = dict(of_rows(*rows, figures=1, x=[(1, 8)], y=[(-1, 8)]).step())
        self.assertEqual(told, {"p": (-1, 2), "m": ZERO, "l": (-1, 2), "c": ZERO})
        told = dict(of_rows(*rows, figures=3, x=[(1, 8)], y=[(-1, 8)]).step())
        self.assertEqual(told, {"p": (1, 8), "m": (1, 8), "l": (-1, 8), "c": (1, 8)})

    def test_lates_add_up(self):
        device = fed(ACC, {"x": [(3, 4)] * 4}, figures=1)
        self.assertEqual(device.run(4), [[("a", (1, 2))], [("a", ONE)], [("a", (3, 2))], [("a", (2, 1))]])
        device = fed(ACC, {"x": [(-1, 64)] * 3}, figures=0)
        self.assertEqual(device.run(3), [[("a", (-1, 1))], [("a", (-2, 1))], [("a", (-3, 1))]])
        halved = code_of(graph_of(program_of("spring x 1", "brook a by 1/2 sum x late -1 a", "out a")))
        device = fed(halved, {"x": whole(0, 0, 0)}, figures=1)
        self.assertEqual(device.run(3), [[("a", (-1, 2))], [("a", (-1, 2))], [("a", (-1, 2))]])

    def test_box_that_is_read_and_written(self):
        rows = (("take", 0, "x"), ("less", 0, 0, 0), ("fix", 0, ONE), ("sum", 0, 0, 0), ("pick", 0, 0, 0, 0), ("copy", 0, 0),
                ("by", 0, (3, 1), 0), ("most", 0, 0, 0), ("give", "a", 0))
        self.assertEqual(of_rows(*rows, x=[ONE]).step(), [("a", (6, 1))])

    def test_told_rises_by_names(self):
        self.assertEqual(of_rows(("fix", 0, ONE), ("give", "c", 0), ("give", "a", 0), ("fix", 0, ZERO), ("give", "b", 0)).step(), [
            ("a", ONE), ("b", ZERO), ("c", ONE)])
        graph = ((spring("x", 2), ("by", HALF, (0,), 2), ("half", None, (0,), 4)), (("z", 1), ("y", 2), ("m", 0)))
        device = fed(code_of(graph), {"x": whole(1, 2, 3)})
        self.assertEqual(device.run(5), [
            [("m", ONE), ("y", ONE), ("z", HALF)], [], [("m", (2, 1)), ("z", ONE)], [],
            [("m", (3, 1)), ("y", (3, 1)), ("z", (3, 2))]])

    def test_step_and_run_tell_the_same(self):
        given = {"x": whole(*range(12)), "y": whole(*range(6))}
        code = code_of(graph_of(BIG))
        one, other = fed(code, given), fed(code, given)
        rows = one.run(7) + one.run(0) + one.run(beats=5)
        self.assertEqual(rows, [other.step() for _ in range(12)])
        self.assertEqual(one, other)
        self.assertEqual(Device(code).run(0), [])


class Fits(Check):
    def test_bounds_of_a_box(self):
        rows = (("take", 0, "x"), ("give", "a", 0))
        for wide, figures, number, fits in [
            (2, 0, (1, 1), True), (2, 0, (2, 1), False), (2, 0, (-2, 1), True), (2, 0, (-3, 1), False),
            (2, 0, (3, 2), True), (2, 0, (-5, 2), False), (4, 2, (7, 4), True), (4, 2, (2, 1), False),
            (4, 2, (15, 8), True), (4, 2, (-2, 1), True), (4, 2, (-17, 8), False), (4, 2, (-9, 4), False),
            (8, 30, (127, 2 ** 30), True), (8, 30, (1, 2 ** 23), False), (8, 30, (-1, 2 ** 23), True),
            (60, 0, (2 ** 59 - 1, 1), True), (60, 0, (2 ** 59, 1), False), (60, 0, (-2 ** 59, 1), True),
        ]:
            device = of_rows(*rows, wide=wide, figures=figures, x=[number])
            if fits:
                self.assertEqual([name for name, _ in device.step()], ["a"])
            else:
                self.small((0, 0), device.step)

    def test_widths_where_none_are_named(self):
        self.assertEqual((WIDE, FIGURES), (24, 8))
        rows = (("take", 0, "x"), ("give", "a", 0))
        most = (2 ** 23 - 1, 2 ** 8)
        self.assertEqual(of_rows(*rows, x=[most]).step(), [("a", most)])
        self.small((0, 0), of_rows(*rows, x=[(2 ** 15, 1)]).step)
        self.assertEqual(of_rows(*rows, x=[(-2 ** 15, 1)]).step(), [("a", (-2 ** 15, 1))])
        self.assertEqual(of_rows(*rows, x=[(1, 512)]).step(), [("a", ZERO)])
        self.assertRaises(TypeError, lambda: Device(ACC, 24))

    def test_each_row_that_does_not_fit(self):
        two = [("take", 0, "x"), ("take", 1, "y")]
        for row, x, y in [(("sum", 2, 0, 1), 4, 4), (("less", 2, 0, 1), 7, -1), (("by", 2, (2, 1), 0), 4, 0),
                          (("fix", 2, (8, 1)), 0, 0), (("take", 2, "z"), 0, 0), (("by", 2, (-2, 1), 0), 5, 0)]:
            device = of_rows(*two, ("copy", 3, 0), ("most", 4, 0, 1), ("least", 4, 0, 1), ("give", "a", 0), row, row,
                             ("fix", 5, (100, 1)), wide=4, figures=0, x=whole(x), y=whole(y), **({"z": whole(8)} if "z" in row else {}))
            device.feed("z", whole(8)) if "z" in row else None
            kept = device.like()
            self.small((0, 6), device.step)
            self.assertEqual((device, device.boxes()), (kept, [None] * 9))

    def test_small_at_a_beat(self):
        device = fed(ACC, {"x": whole(3, 3, 3, -9)}, wide=4, figures=0)
        kept = device.like()
        self.small((2, 1), lambda: device.run(4))
        self.small((2, 1), lambda: device.run(3))
        self.assertEqual(device, kept)
        self.assertEqual(device.run(2), [[("a", (3, 1))], [("a", (6, 1))]])
        ahead = device.image()
        for _ in range(2):
            self.small((2, 1), device.step)
            self.small((2, 1), lambda: device.run(1))
            self.assertEqual((device.image(), device.beat(), device.left("x")), (ahead, 2, whole(3, -9)))

    def test_rows_are_those_of_the_code(self):
        # The first row that doesn't fit, whatever stands behind it.
        device = of_rows(("fix", 0, ONE), ("give", "a", 0), ("fix", 1, (9, 1)), ("fix", 2, (9, 1)), wide=4, figures=0)
        self.small((0, 2), device.step)

    def test_kept_that_do_not_fit(self):
        kept = ((1, 0, (7, 1)), (3, 1, None), (4, 2, (8, 1)), (5, 3, (-9, 1)), (6, 4, (9, 1)))
        self.small(("kept", 4), lambda: Device((9, kept, ((),)), wide=4, figures=0))
        self.small(("kept", 1), lambda: Device((9, kept, ((),)), wide=3, figures=0))
        self.small(("kept", 1), lambda: Device((9, kept, ((),)), wide=4, figures=1))
        self.assertEqual(Device((9, kept[:2], ((),)), wide=4, figures=0).boxes(), [None, (7, 1)] + [None] * 7)
        # Cut first.
        self.assertEqual(Device((2, ((0, 0, (15, 2)),), ((),)), wide=4, figures=0).boxes(), [(7, 1), None])
        self.assertEqual(Device((2, ((0, 0, (-15, 2)),), ((),)), wide=4, figures=0).boxes(), [(-8, 1), None])
        self.small(("kept", 0), lambda: Device((2, ((0, 0, (-17, 2)),), ((),)), wide=4, figures=0))

    def test_dropped_ones_are_no_matter(self):
        rows = (("take", None, "x"), ("take", 0, "x"), ("give", "a", 0))
        device = of_rows(*rows, wide=4, figures=0, x=[(999, 1), (3, 1), (1, 64), (7, 2)])
        self.assertEqual(device.run(2), [[("a", (3, 1))], [("a", (3, 1))]])
        self.assertEqual(device.left("x"), [])
        device = of_rows(("take", None, "x"), wide=2, figures=0, x=[(999, 64)])
        self.assertEqual((device.step(), device.left("x"), device.boxes()), ([], [], [None] * 9))


class Feeds(Check):
    def test_no_spring(self):
        code = code_of(graph_with("half x", ("x", 1), ("y", 1)))
        device = Device(code)
        for name in ("y", "a", "", "xx"):
            for ask in (lambda: device.feed(name, whole(1)), lambda: device.feed(name, []), lambda: device.left(name)):
                with self.assertRaises(NoSpring) as caught:
                    ask()
                self.assertIs(type(caught.exception), NoSpring)
                self.assertEqual(caught.exception.name, name)
        only_dropped = Device((1, (), ((("fix", 0, ONE),), (("take", None, "x"),))))
        only_dropped.feed("x", whole(1))
        self.assertEqual(only_dropped.left("x"), whole(1))

    def test_feed_tells_nothing_and_keeps_no_list(self):
        device = Device(ACC)
        numbers = whole(1, 2)
        self.assertIsNone(device.feed("x", numbers))
        numbers.append(ONE)
        numbers[0] = (5, 1)
        self.assertEqual(device.left("x"), whole(1, 2))
        device.feed("x", [])
        device.feed(name="x", numbers=whole(3))
        left = device.left(name="x")
        self.assertEqual(left, whole(1, 2, 3))
        left.clear()
        self.assertEqual(device.run(3), [[("a", ONE)], [("a", (3, 1))], [("a", (6, 1))]])

    def test_dry(self):
        rows = (("take", 0, "x"), ("take", 1, "b"), ("take", None, "m"), ("give", "a", 0))
        device = of_rows(*rows, x=whole(1, 2, 3), b=whole(1, 2), m=whole(1))
        kept = device.like()
        self.dry("b", lambda: device.run(3))
        self.dry("m", lambda: device.run(2))
        self.assertEqual(device, kept)
        device.step()
        self.dry("m", device.step)
        device.feed("m", whole(1))
        device.step()
        self.dry("b", device.step)
        device.feed("b", whole(1, 1))
        self.dry("m", device.step)
        device.feed("m", whole(1, 1))
        device.step()
        self.dry("x", device.step)
        self.assertEqual((device.beat(), device.left("m")), (3, whole(1)))

    def test_dry_at_the_beats_at_which_it_is_taken(self):
        code = code_of(graph_of(BIG))
        device = fed(code, {"x": whole(1, 2, 3, 4)})
        self.dry("y", device.step)
        self.dry("y", lambda: device.run(2))
        device.feed("y", whole(1))
        self.dry("y", lambda: device.run(3))
        device.run(2)
        self.dry("y", device.step)
        device.feed("y", whole(1))
        self.dry("x", lambda: device.run(3))
        self.assertEqual(len(device.run(2)), 2)
        self.dry("x", device.step)

    def test_dry_goes_ahead_of_small(self):
        rows = (("fix", 0, (99, 1)), ("take", 1, "x"))
        device = of_rows(*rows, wide=4, figures=0)
        self.dry("x", device.step)
        self.dry("x", lambda: device.run(1))
        device.feed("x", whole(1))
        self.small((0, 0), device.step)
        self.dry("x", lambda: device.run(2))


class Papers(Check):
    def some(self):
        dice = random.Random(3)
        for program in [BIG, *some_good_programs(203, 25)]:
            graph = graph_of(program)
            code = code_of(graph)
            given = some_given(dice, springs_of(graph), 20)
            device = fed(code, given, wide=3000, figures=4)
            device.run(dice.choice([0, 1, 5]))
            yield device

    def test_image_and_device_of(self):
        for device in self.some():
            image = device.image()
            rest = [image]
            while rest:
                thing = rest.pop()
                self.assertIn(type(thing), (int, str, tuple, type(None)))
                rest.extend(thing if type(thing) is tuple else ())
            self.assertIs(type(image), tuple)
            other = device_of(device.code, image)
            self.assertIs(type(other), Device)
            self.assertEqual(other, device)
            self.assertEqual(other.image(), image)
            self.goes_on_apart(device, other)
            self.assertEqual(device_of(image=image, code=device.code).image(), image)

    def test_like(self):
        for device in self.some():
            self.goes_on_apart(device, device.like())

    def goes_on_apart(self, device, other):
        self.assertTrue(device == other)
        self.assertFalse(device != other)
        image = device.image()
        left = {name: device.left(name) for name in device.queues}
        told = other.run(7)
        self.assertEqual((device.image(), {name: device.left(name) for name in left}), (image, left))
        self.assertFalse(device == other)
        other.feed(next(iter(left), "x"), whole(1)) if left else None
        self.assertEqual(device.image(), image)
        again = device_of(device.code, image)
        self.assertEqual(again.run(7), told)
        self.assertEqual(device.run(7), told)

    def test_images_tell_all(self):
        device = fed(ACC, {"x": [(1, 4), (3, 1)]}, wide=7, figures=1)
        device.step()
        other = device_of(ACC, device.image())
        self.assertEqual(other.boxes(), [ZERO, ZERO])
        self.assertEqual((other.beat(), len(other), other.left("x")), (1, 1, [(3, 1)]))
        self.assertEqual(other.step(), [("a", (3, 1))])
        other.feed("x", [(99, 1)])
        self.small((2, 0), other.step)
        other = device_of(ACC, device.image())
        other.step()
        other.feed("x", [(7, 4)])
        self.assertEqual(other.step(), [("a", (9, 2))])

    def test_equal(self):
        device = fed(ACC, {"x": whole(1, 2)})
        self.assertEqual(device, fed(ACC, {"x": whole(1, 2)}))
        self.assertEqual(device, fed((2, tuple(list(ACC[1])), ACC[2]), {"x": whole(1, 2)}))
        for other in [
            fed(ACC, {"x": whole(1)}), fed(ACC, {"x": whole(2, 1)}), fed(ACC, {"x": whole(1, 2)}, wide=25),
            fed(ACC, {"x": whole(1, 2)}, figures=9), fed((3, *ACC[1:]), {"x": whole(1, 2)}),
            ACC, None, 0, device.image(), "device",
        ]:
            self.assertTrue(device != other)
            self.assertFalse(device == other)
            self.assertFalse(other == device)
        one, other = fed(ACC, {"x": whole(0, 5)}), fed(ACC, {"x": whole(5)})
        one.step()
        # The same in all but the beat, and in what lies in the box of x.
        self.assertNotEqual(one, other)
        late = (1, ((0, 0, ONE),), ((("give", "a", 0),),))
        one, other = Device(late), Device(late)
        one.step()
        self.assertNotEqual(one, other)
        self.assertEqual(one.boxes(), other.boxes())
        other.step()
        self.assertEqual(one, other)
        one, other = fed(ACC, {"x": whole(1)}), fed(ACC, {"x": whole(2)})
        one.step()
        other.step()
        self.assertNotEqual(one, other)

    def test_told_lists_are_the_askers_own(self):
        device = fed(ACC, {"x": whole(1, 2, 3)})
        kept = device.like()
        device.boxes().clear()
        device.left("x").append(ONE)
        self.assertEqual(device, kept)
        rows = device.run(2)
        boxes = device.boxes()
        rows[0].clear()
        rows.clear()
        boxes[0] = None
        self.assertEqual(device.boxes(), [(3, 1), (3, 1)])
        self.assertEqual(device.step(), [("a", (6, 1))])
        self.assertIsNot(device.left("x"), device.left("x"))

    def test_boxes_are_all_told(self):
        self.assertEqual(of_rows(("fix", 3, ONE), boxes=5).boxes(), [None] * 5)
        device = of_rows(("fix", 3, ONE), boxes=5)
        device.step()
        self.assertEqual(device.boxes(), [None, None, None, ONE, None])
        self.assertEqual(len(Device((10 ** 6, (), ((),))).boxes()), 10 ** 6)

    def test_beats_go_round(self):
        device = Device((1, (), ((("fix", 0, ONE), ("give", "a", 0)), (), (("give", "b", 0),))))
        self.assertEqual(device.run(4), [[("a", ONE)], [], [("b", ONE)], [("a", ONE)]])
        self.assertEqual((device.beat(), len(device)), (4, 4))


if __name__ == "__main__":
    unittest.main()
