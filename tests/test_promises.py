"""What holds for all functions: what's handed in stays, by place and by name, values of the told kinds. [2]"""

import inspect
import unittest

from brookworks import (
    blocks, codecheck, codes, desk, device, figures, graphs, joint, lookpapers, looks, maps, mill, noise, nums, plain,
    programs, streams, terms, texts, ways,
)
from tests.helpers import A, BIG, BIG_TEXT, ONE, X, Y, halves, one_brook

GIVEN = {"x": [ONE, (1, 2), ONE], "y": [ONE, ONE]}
CLASHING = one_brook(("sum", X, ("half", X)))
GRAPH = graphs.graph_of(BIG)
CODE = codes.code_of(GRAPH)
JOINED = joint.joined_of(BIG, GIVEN, 3)
TWICE = ((("sum", None, (1, 2), 1), ("spring", "x", (), 1), ("spring", "x", (), 1)), (("a", 0),))

# Of each function its arguments as the document writes them, and something to hand in.
ASKED = {
    nums: {
        "num_of": ("number, parts=1", (6, 4)),
        "sum_of": ("one, other", (ONE, ONE)),
        "less_of": ("one, other", (ONE, ONE)),
        "times_of": ("one, other", (ONE, ONE)),
        "is_below": ("one, other", (ONE, ONE)),
        "least_num": ("some", ([(2, 1), (1, 2), (3, 1)],)),
        "most_num": ("some", ([(2, 1), (1, 2), (3, 1)],)),
        "figures_of": ("one", (ONE,)),
        "cut_of": ("one, figures", ((3, 4), 1)),
        "is_num": ("thing", ([1, [2, [3]]],)),
        "num_text": ("one", ((3, 4),)),
        "num_in": ("text", ("-3/4",)),
    },
    terms: {
        "is_term": ("thing", (["sum", ["name", "a"]],)),
        "paths_of": ("term", (("sum", X, Y),)),
        "part_at": ("term, path", (("sum", X, Y), (0,))),
        "put_at": ("term, path, other", (("sum", X, Y), (0,), A)),
        "parts_of": ("term", (("sum", X, Y),)),
        "deep_of": ("term", (halves(3, X),)),
        "names_in": ("term", (("sum", X, Y),)),
    },
    programs: {
        "is_program": ("thing", ([[["x", 1]], [["a", X]], ["a"]],)),
        "term_of": ("program, name", (BIG, "acc")),
        "places_of": ("program", (BIG,)),
        "uses_of": ("program, name, *, now=False", (BIG, "acc")),
        "with_brook": ("program, name, term", (BIG, "new", X)),
        "without": ("program, name", (BIG, "acc")),
    },
    texts: {
        "term_text": ("term", (("sum", X, Y),)),
        "term_in": ("text", ("sum x y",)),
        "program_text": ("program", (BIG,)),
        "program_in": ("text", (BIG_TEXT,)),
    },
    looks: {
        "rules_of": ("program", (BIG,)),
        "look": ("program", (BIG,)),
        "periods_of": ("program", (BIG,)),
    },
    lookpapers: {
        "look_paper": ("program", (BIG,)),
        "shows_look": ("program, thing", (BIG, ([[1]], [["a"]]))),
        "shows_round": ("program, thing", (one_brook(A), ["a"])),
        "clash_paper": ("program", (CLASHING,)),
        "shows_clash": ("program, thing", (CLASHING, [(4, 1)])),
    },
    plain: {"plain_run": ("program, given, beats", (BIG, GIVEN, 3))},
    blocks: {
        "groups_of": ("program", (BIG,)),
        "block_run": ("program, given, beats, *, size=8", (BIG, GIVEN, 3)),
    },
    graphs: {
        "is_graph": ("thing", ([[["spring", "x", [], 1]], [["a", 0]]],)),
        "graph_of": ("program", (BIG,)),
        "alike_in": ("graph", (TWICE,)),
        "least_graph": ("graph", (TWICE,)),
        "graph_run": ("graph, given, beats", (GRAPH, GIVEN, 3)),
    },
    maps: {
        "map_of": ("program", (BIG,)),
        "shows_map": ("program, graph, thing", (BIG, GRAPH, [[["acc", [0]], 1]])),
    },
    codes: {
        "code_of": ("graph, *, boxes=120", (GRAPH,)),
        "work_of": ("code", (CODE,)),
    },
    codecheck: {"shows_code": ("graph, thing", (GRAPH, [[1], [[2, [3]]]]))},
    device: {"device_of": ("code, image", (CODE, device.Device(CODE).image()))},
    figures: {"figures_by": ("graph, *, fine=6", (GRAPH,))},
    noise: {
        "noise_of": ("graph, beats, *, figures=8, fine=6", (GRAPH, 3)),
        "off_by": ("graph, given, beats, *, figures=8", (GRAPH, GIVEN, 3)),
        "worst_of": ("graph, numbers, beats, *, figures=8", (GRAPH, [ONE, (2, 1)], 2)),
    },
    ways: {
        "least_way": ("graph, name, out", (GRAPH, "x", "thick")),
        "shows_way": ("graph, name, out, thing", (GRAPH, "x", "thick", (0, [[1], 2]))),
        "lates_of": ("graph, name, out", (GRAPH, "x", "thick")),
        "felt_by": ("graph, given, name, number, other, beats", (GRAPH, GIVEN, "x", 1, (5, 1), 3)),
    },
    joint: {
        "record_of": ("code, given, beats, *, wide=24, figures=8", (CODE, GIVEN, 3)),
        "shows_record": ("code, thing, *, wide=24, figures=8", (CODE, [[0, "in"], (0, ["in"])])),
        "joined_of": ("program, given, beats, *, wide=24, figures=8", (BIG, GIVEN, 3)),
        "shows_joined": ("program, thing, *, wide=24, figures=8", (BIG, JOINED)),
        "outs_in": ("thing", (JOINED,)),
    },
    desk: {"answers": ("text", (BIG_TEXT + "\nmill\nfeed x 1\nfeed y 1\ngo 1",))},
}

# Of each class the arguments with which it's made, and those of its methods.
CLASSES = {
    streams.Streams: ("program", {
        "feed": "name, numbers", "step": "", "run": "beats", "beat": "", "kept": "", "left": "name", "like": "",
        "__eq__": "other", "__len__": "",
    }),
    device.Device: ("code, *, wide=24, figures=8", {
        "feed": "name, numbers", "step": "", "run": "beats", "beat": "", "boxes": "", "left": "name", "image": "",
        "like": "", "__eq__": "other", "__len__": "",
    }),
    mill.Mill: ("program", {
        "feed": "name, numbers", "go": "*, beats=1", "put": "name, term, *, keep=False", "drop": "name", "show": "name",
        "hide": "name", "undo": "", "do": "deeds, *, whole=True", "program": "", "beat": "", "kept": "", "left": "name",
        "periods": "", "round_now": "", "told": "*, first=0", "graph": "", "deeds": "", "twin": "", "busy": "", "log": "",
        "__eq__": "other",
    }),
}


class Promises(unittest.TestCase):
    def each(self):
        for module, functions in ASKED.items():
            for name, (written, handed) in functions.items():
                with self.subTest(name):
                    yield getattr(module, name), written, handed

    def test_arguments_are_as_written(self):
        for function, written, _ in self.each():
            self.assertEqual(str(inspect.signature(function)), f"({written})")

    def test_classes_are_as_written(self):
        for made, (written, methods) in CLASSES.items():
            self.assertEqual(str(inspect.signature(made)), f"({written})")
            for name, told in methods.items():
                # In the class itself, not only in a base class.
                method = vars(made)[name]
                self.assertEqual(str(inspect.signature(method)), "(self, " * bool(told) + "(self" * (not told) + told + ")")
                self.assertEqual(method.__module__, made.__module__)

    def test_each_is_defined_where_the_interface_lists_it(self):
        for module, functions in ASKED.items():
            for name in functions:
                self.assertEqual(getattr(module, name).__module__, module.__name__)

    def test_by_place_and_by_name(self):
        for function, _, handed in self.each():
            names = list(inspect.signature(function).parameters)
            self.assertEqual(function(*handed), function(**dict(zip(names, handed))))

    def test_what_is_handed_in_stays(self):
        for function, _, handed in self.each():
            kept = repr(handed)
            function(*handed)
            self.assertEqual(repr(handed), kept)

    def test_the_same_question_is_told_the_same(self):
        for function, _, handed in self.each():
            told, again = function(*handed), function(*handed)
            self.assertEqual(told, again)
            if not isinstance(told, tuple(CLASSES)):
                self.assertEqual(repr(told), repr(again))
            if isinstance(told, list):
                self.assertIsNot(told, again)
                told.reverse()
                told.append(None)
                self.assertEqual(function(*handed), again)
            if isinstance(told, dict):
                self.assertIsNot(told, again)
                for numbers in told.values():
                    if isinstance(numbers, list):
                        numbers.reverse()
                        numbers.append(None)
                told.clear()
                self.assertEqual(function(*handed), again)

    def test_whether_is_told_by_true_or_false(self):
        for name, function in [("is_below", None), *self.whethers()]:
            if function is None:
                self.assertIs(nums.is_below(ONE, ONE), False)
                self.assertIs(nums.is_below((1, 2), ONE), True)
                continue
            for thing in [None, (), [], "", 0, ONE, X, BIG, (0, 1), (0, 2), ((), (), ()), [[]]]:
                self.assertIn(repr(function(thing)), ("True", "False"), name)
        for shows in (lookpapers.shows_look, lookpapers.shows_round, lookpapers.shows_clash):
            for thing in [None, (), [], "", 0, lookpapers.look_paper(BIG), ["a"], lookpapers.clash_paper(CLASHING)]:
                for program in (BIG, CLASHING, one_brook(A)):
                    self.assertIn(repr(shows(program, thing)), ("True", "False"), thing)
        for thing in [None, (), [], "", 0, maps.map_of(BIG), maps.map_of(BIG)[:-1], [None], [(None, None)]]:
            for program in (BIG, CLASHING):
                self.assertIn(repr(maps.shows_map(program, GRAPH, thing)), ("True", "False"), thing)
        for thing in [None, (), [], "", 0, CODE, CODE[:2], (1, (), ()), (1, (), ((),))]:
            self.assertIn(repr(codecheck.shows_code(GRAPH, thing)), ("True", "False"), thing)
        for thing in [None, (), [], "", 0, JOINED, JOINED[4], ways.least_way(GRAPH, "x", "acc"), (0, [0])]:
            self.assertIn(repr(ways.shows_way(GRAPH, "x", "acc", thing)), ("True", "False"), thing)
            self.assertIn(repr(joint.shows_record(CODE, thing)), ("True", "False"), thing)
            self.assertIn(repr(joint.shows_joined(BIG, thing)), ("True", "False"), thing)

    def whethers(self):
        return [("is_num", nums.is_num), ("is_term", terms.is_term), ("is_program", programs.is_program),
                ("is_graph", graphs.is_graph)]

    def test_whole_numbers_are_told_as_such(self):
        for told in [
            *nums.num_of(6, 4), *nums.sum_of(ONE, ONE), nums.figures_of(ONE), terms.parts_of(X), terms.deep_of(X),
            *nums.num_in("1/2"), *[period for _, period in looks.look(BIG)],
            *[power for _, _, power in looks.rules_of(BIG)],
        ]:
            self.assertIs(type(told), int)


if __name__ == "__main__":
    unittest.main()
