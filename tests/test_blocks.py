"""Groups of brooks, and programs run by blocks. [11]"""

import random
import unittest

from brookworks.blocks import block_run, groups_of
from brookworks.errors import NotGiven
from brookworks.limits import SIZE
from brookworks.looks import look
from brookworks.plain import plain_run
from brookworks.programs import brook_names, uses_of, with_brook
from tests.helpers import A, BIG, FIX, X, ZERO, one_brook, program_of, some_programs, whole
from tests.oracle import REFUSED, check_refused_as_look_is, some_given, some_good_programs, told_by

SIZES = (1, 2, 3, 7, 8, 64, 100)


# Two rounds through lates of two beats, one of them with a window and rates, and a brook of each.
ROUNDS = program_of(
    "spring x 1", "spring y 2",
    "brook e sum a d", "brook a late 1 late 2 b", "brook b sum x late 0 late 0 a",
    "brook c sum half over 3 0 a late 5 late 6 late 7 f", "brook f less y late 1 late 1 c", "brook d late 0 twice c",
    "out e", "out f",
)


def ways(program):
    """The dict from each brook to the set of brooks it comes to, in one step or more."""
    names = brook_names(program)
    told = {name: {other for other in uses_of(program, name) if other in names} for name in names}
    for between in names:
        for name in names:
            if between in told[name]:
                told[name] |= told[between]
    return told


def groups_awaited(program):
    names = brook_names(program)
    come = ways(program)
    told = []
    done = []
    while len(done) < len(names):
        for name in names:
            group = [other for other in names if other == name or (other in come[name] and name in come[other])]
            if name not in done and all(other in done for one in group for other in come[one] if other not in group):
                told.append(group)
                done.extend(group)
                break
    return told


class Groups(unittest.TestCase):
    def test_brooks_alone(self):
        self.assertEqual(groups_of(BIG), [["acc"], ["thin"], ["both"], ["thick"]])
        self.assertEqual(groups_of(one_brook(X)), [["a"]])
        self.assertEqual(groups_of(one_brook(A)), [["a"]])
        program = program_of("spring x 1", "brook d a", "brook c x", "brook b c", "brook a x", "brook e d", "out d")
        self.assertEqual(groups_of(program=program), [["c"], ["b"], ["a"], ["d"], ["e"]])

    def test_rounds_through_lates(self):
        self.assertEqual(groups_of(ROUNDS), [["a", "b"], ["c", "f"], ["d"], ["e"]])

    def test_of_several_the_one_whose_first_brook_is_first(self):
        program = program_of(
            "spring x 1",
            "brook m late 0 q", "brook n late 0 p", "brook o m", "brook p late 0 n", "brook q late 0 r", "brook r sum x late 1 m",
            "out o")
        self.assertEqual(groups_of(program), [["m", "q", "r"], ["n", "p"], ["o"]])
        program = with_brook(program, "m", ("sum", ("late", ZERO, ("name", "q")), ("late", ZERO, ("name", "p"))))
        self.assertEqual(groups_of(program), [["n", "p"], ["m", "q", "r"], ["o"]])

    def test_programs_that_cannot_be_looked_at(self):
        program = program_of("spring x 1", "brook z sum a b", "brook a twice b", "brook b sum x c", "brook c half a", "out z")
        self.assertRaises(REFUSED, look, program)
        self.assertEqual(groups_of(program), [["a", "b", "c"], ["z"]])
        self.assertEqual(groups_of(one_brook(FIX)), [["a"]])

    def test_some_programs(self):
        many = 0
        for program in [ROUNDS, *some_programs(61, 500), *some_good_programs(62, 300)]:
            told = groups_of(program)
            self.assertEqual(told, groups_awaited(program))
            many += max(len(group) for group in told) > 1
        self.assertGreater(many, 20)

    def test_lists_are_the_askers_own(self):
        told, again = groups_of(ROUNDS), groups_of(ROUNDS)
        self.assertIsNot(told, again)
        for one, other in zip(told, again):
            self.assertIsNot(one, other)
        told[0].clear()
        told.pop()
        self.assertEqual(groups_of(ROUNDS), again)


class Runs(unittest.TestCase):
    def test_size_left_out(self):
        self.assertEqual(SIZE, 8)
        given = {"x": whole(*range(20)), "y": whole(*range(10))}
        self.assertEqual(block_run(ROUNDS, given, 20), plain_run(ROUNDS, given, 20))
        self.assertEqual(block_run(program=ROUNDS, given=given, beats=20, size=3), plain_run(ROUNDS, given, 20))
        self.assertRaises(TypeError, lambda: block_run(ROUNDS, given, 20, 3))

    def test_any_size(self):
        dice = random.Random(9)
        for program in [BIG, ROUNDS, one_brook(("sum", X, ("late", ZERO, A))), *some_good_programs(63, 80)]:
            for beats in (0, 1, 24, 64):
                given = some_given(dice, program[0], beats, dice.choice([0, 1]))
                awaited = plain_run(program, given, beats)
                self.assertEqual(awaited, told_by(program, given, beats))
                for size in SIZES:
                    told = block_run(program, given, beats, size=size)
                    self.assertEqual(told, awaited)
                    self.assertEqual(list(told), list(awaited))

    def test_told_dicts_and_lists_are_the_askers_own(self):
        program = program_of("spring x 1", "brook a x", "brook b a", "out a")
        given = {"x": whole(1, 2, 3)}
        told, again = block_run(program, given, 3), block_run(program, given, 3)
        lists = [*told.values(), *again.values(), given["x"]]
        self.assertEqual(len({id(one) for one in lists}), 5)
        told["a"].clear()
        del told["b"]
        self.assertEqual(block_run(program, given, 3), again)
        self.assertEqual(given, {"x": whole(1, 2, 3)})


class Refused(unittest.TestCase):
    def test_not_given(self):
        program = one_brook(X, ("x", 2), ("b", 1), ("y", 16))
        full = {"x": whole(*range(8)), "b": whole(*range(16)), "y": whole(0)}
        for given, beats, name in [
            ({}, 0, "b"), ({"b": []}, 0, "x"), ({"b": [], "x": []}, 0, "y"),
            ({**full, "b": whole(*range(15))}, 16, "b"), ({**full, "y": []}, 16, "y"),
            ({**full, "x": whole(*range(7)), "y": []}, 16, "x"), (full, 17, "b"),
        ]:
            for size in SIZES:
                with self.assertRaises(NotGiven) as caught:
                    block_run(program, given, beats, size=size)
                self.assertEqual(caught.exception.name, name)
        self.assertEqual(block_run(program, full, 16), {"a": whole(*range(8))})

    def test_as_look_is(self):
        check_refused_as_look_is(self, 64, lambda program: block_run(program, {}, 4))


if __name__ == "__main__":
    unittest.main()
