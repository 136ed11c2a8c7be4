"""From end to end: all ways of running a program tell the same. [1]"""

import random
import unittest

from brookworks.blocks import block_run
from brookworks.codecheck import shows_code
from brookworks.codes import code_of, work_of
from brookworks.desk import answers
from brookworks.device import Device, device_of
from brookworks.figures import figures_by
from brookworks.graphs import alike_in, graph_of, graph_run
from brookworks.joint import joined_of, outs_in, shows_joined
from brookworks.looks import look
from brookworks.maps import map_of, shows_map
from brookworks.mill import Mill
from brookworks.nums import num_text
from brookworks.plain import plain_run
from brookworks.streams import Streams
from brookworks.texts import program_in, program_text
from tests.helpers import BIG
from tests.oracle import some_given, some_good_programs, told_by


def by_outs(rows, outs):
    """The dict from each out to the list of what rows tell of it."""
    return {out: [number for row in rows for name, number in row if name == out] for out in outs}


def rows_of(made, given, beats):
    for name in given:
        made.feed(name, given[name])
    return made.run(beats)


class Ends(unittest.TestCase):
    def check(self, program, given, beats):
        outs = program[2]
        self.assertEqual(program_in(program_text(program)), program)
        awaited = {name: numbers for name, numbers in told_by(program, given, beats).items() if name in outs}
        self.assertEqual({name: plain_run(program, given, beats)[name] for name in outs}, awaited)
        self.assertEqual({name: block_run(program, given, beats, size=5)[name] for name in outs}, awaited)
        self.assertEqual(by_outs(rows_of(Streams(program), given, beats), outs), awaited)
        graph = graph_of(program)
        self.assertEqual((alike_in(graph), shows_map(program, graph, map_of(program))), ([], True))
        self.assertEqual(graph_run(graph, given, beats), awaited)
        code = code_of(graph)
        self.assertTrue(shows_code(graph, code))
        self.assertEqual(code[0], len(code[1]) + work_of(code))
        self.check_device(program, graph, code, given, beats, awaited)
        self.check_mill(program, given, beats, awaited)

    def check_device(self, program, graph, code, given, beats, awaited):
        figures = figures_by(graph)
        if None in figures:
            return
        bounds = {"wide": 4000, "figures": max(figures)}
        given = {name: given[name] for name in {node[1] for node in graph[0] if node[0] == "spring"}}
        device = Device(code, **bounds)
        rows = rows_of(device, given, beats // 2)
        rows += device_of(code, device.image()).run(beats - beats // 2)
        self.assertEqual(by_outs(rows, program[2]), awaited)
        thing = joined_of(program, given, beats, **bounds)
        self.assertIs(shows_joined(program, thing, **bounds), True)
        self.assertEqual(outs_in(thing), awaited)

    def check_mill(self, program, given, beats, awaited):
        mill = Mill(program)
        for name in given:
            for at in range(0, len(given[name]), 60):
                mill.feed(name, given[name][at:at + 60])
        self.assertEqual(by_outs(mill.go(beats=beats), program[2]), awaited)
        told = [(name, number) for _, name, number in mill.told()]
        rows = []
        for name in given:
            for at in range(0, len(given[name]), 20):
                rows.append(f"feed {name} " + " ".join(num_text(number) for number in given[name][at:at + 20]))
        text = "\n".join([program_text(program), "mill", *rows, f"go {beats}", "periods"])
        periods = " ".join(f"{name}:{period}" for name, period in look(program))
        self.assertEqual(answers(text)[len(rows):], [" ".join(f"{name}:{num_text(number)}" for name, number in told) or "-", periods])

    def test_big(self):
        for beats in (1, 2, 9, 20):
            self.check(BIG, some_given(random.Random(beats), BIG[0], beats), beats)

    def test_some_programs(self):
        dice = random.Random(901)
        for program in some_good_programs(902, 80):
            beats = dice.choice([1, 6, 17, 32])
            self.check(program, some_given(dice, program[0], beats), beats)

    def test_springs_within_the_figures_that_are_thought(self):
        # given's numbers have at most 6 figures, as figures_by thinks where nothing else is told.
        given = some_given(random.Random(3), (("x", 1),), 50)
        self.assertLessEqual(max(parts for _, parts in given["x"]), 64)


if __name__ == "__main__":
    unittest.main()
