"""Programs run by their text. [5], [9]"""

import random
import unittest

from brookworks.errors import NotGiven
from brookworks.looks import look
from brookworks.plain import plain_run
from brookworks.programs import with_brook
from brookworks.texts import term_in
from tests.helpers import A, BIG, FIX, HALF, ONE, X, Y, ZERO, one_brook, program_of, some_programs, whole
from tests.oracle import REFUSED, check_refused_as_look_is, some_given, some_good_programs, told_by


def told_of(text, beats, *springs, **given):
    """What a brook of that TERM tells, of springs x, y where none are told."""
    program = one_brook(term_in(text), *springs)
    return plain_run(program, {name: whole(*numbers) for name, numbers in given.items()}, beats)["a"]


class EachWord(unittest.TestCase):
    def test_of_one_period(self):
        x, y = [3, -1, 0, 5], [1, 4, -2, 0]
        for text, awaited in [
            ("x", whole(3, -1, 0, 5)),
            ("sum x 1/2", [(7, 2), (-1, 2), (1, 2), (11, 2)]),
            ("sum x y", whole(4, 3, -2, 5)),
            ("less x y", whole(2, -5, 2, 5)),
            ("less y x", whole(-2, 5, -2, -5)),
            ("by 1/2 x", [(3, 2), (-1, 2), (0, 1), (5, 2)]),
            ("by -2 y", whole(-2, -8, 4, 0)),
            ("pick x y 9", whole(1, 9, 9, 0)),
            ("pick y x less 0 x", whole(3, -1, 0, -5)),
            ("late 7 x", whole(7, 3, -1, 0)),
            ("late 7 late 8 x", whole(7, 8, 3, -1)),
            ("sum late 1 x late 1 late 2 y", whole(2, 5, 0, 4)),
            ("most 2 0 x", whole(3, 3, 0, 5)),
            ("least 2 0 x", whole(0, -1, -1, 0)),
            ("over 2 0 x", whole(3, 2, -1, 5)),
            ("over 2 10 x", whole(13, 2, -1, 5)),
            ("most 3 4 x", whole(4, 4, 3, 5)),
            ("least 3 1/2 x", [(1, 2), (-1, 1), (-1, 1), (-1, 1)]),
            ("over 3 1 x", whole(5, 3, 2, 4)),
            ("over 4 1 x", whole(6, 4, 3, 7)),
            ("over 5 1 x", whole(7, 5, 4, 8)),
            ("most 5 -9 y", whole(1, 4, 4, 4)),
            ("least 5 -9 y", whole(-9, -9, -9, -9)),
            ("twice half x", whole(3, 3, 0, 0)),
            ("most 2 0 late 1 x", whole(1, 3, 3, 0)),
        ]:
            with self.subTest(text):
                self.assertEqual(told_of(text, 4, x=x, y=y), awaited)

    def test_of_unlike_periods(self):
        x, y = list(range(1, 17)), [10, 20, 30, 40]
        springs = (("x", 1), ("y", 4))
        for text, awaited in [
            ("half x", whole(1, 3, 5, 7, 9, 11, 13, 15)),
            ("half half x", whole(1, 5, 9, 13)),
            ("half half half x", whole(1, 9)),
            ("half half half half x", whole(1)),
            ("y", whole(10, 20, 30, 40)),
            ("twice y", whole(10, 10, 20, 20, 30, 30, 40, 40)),
            ("twice twice y", whole(*[10] * 4, *[20] * 4, *[30] * 4, *[40] * 4)),
            ("less half half x y", whole(-9, -15, -21, -27)),
            ("sum x twice twice y", whole(*[number + 10 + 10 * (number - 1 - (number - 1) % 4) // 4 for number in x])),
            ("half late 0 x", whole(0, 2, 4, 6, 8, 10, 12, 14)),
            ("late 0 half x", whole(0, 1, 3, 5, 7, 9, 11, 13)),
            ("half late 0 late 5 x", whole(0, 1, 3, 5, 7, 9, 11, 13)),
            ("twice late 0 y", whole(0, 0, 10, 10, 20, 20, 30, 30)),
            ("late 0 twice y", whole(0, 10, 10, 20, 20, 30, 30, 40)),
            ("half twice y", whole(10, 20, 30, 40)),
            ("over 2 0 twice y", whole(10, 20, 30, 40, 50, 60, 70, 80)),
            ("half over 3 0 x", whole(1, 6, 12, 18, 24, 30, 36, 42)),
            ("pick less half half x 4 y 0", whole(0, 20, 30, 40)),
        ]:
            with self.subTest(text):
                self.assertEqual(told_of(text, 16, *springs, x=x, y=y), awaited)
                # What's told at the first beats alone is the same.
                for beats in range(16):
                    many = len(awaited) * beats / 16
                    told = told_of(text, beats, *springs, x=x, y=y)
                    self.assertEqual(told, awaited[:-int(-many // 1)])

    def test_pick_above_nought_alone(self):
        self.assertEqual(
            plain_run(one_brook(("pick", X, FIX, ZERO_FIX)), {"x": [(1, 64), ZERO, (-1, 64)], "y": whole(0, 0, 0)}, 3),
            {"a": whole(1, 0, 0)})


ZERO_FIX = ("fixed", ZERO)


class Rounds(unittest.TestCase):
    def test_sums(self):
        program = one_brook(("sum", X, ("late", HALF, A)), ("x", 1))
        told = plain_run(program, {"x": whole(*range(1, 65))}, 64)["a"]
        self.assertEqual(told, [(n * (n + 1) + 1, 2) for n in range(1, 65)])

    def test_two_that_swap(self):
        program = program_of("spring x 1", "brook a late 1 b", "brook b late 2 a", "out a")
        program = with_brook(program, "a", term_in("late 1 sum b less x x"))
        self.assertEqual(plain_run(program, {"x": whole(*range(5))}, 5), {"a": whole(1, 2, 1, 2, 1), "b": whole(2, 1, 2, 1, 2)})

    def test_a_brook_that_comes_late_uses_one_further_on(self):
        program = program_of("spring x 1", "brook a late 0 sum b x", "brook b twice c", "brook c half sum x a", "out b")
        self.assertEqual(plain_run(program, {"x": whole(1, 2, 3, 4, 5, 6)}, 6), {
            "a": whole(0, 2, 3, 9, 10, 20), "b": whole(1, 1, 6, 6, 15, 15), "c": whole(1, 6, 15)})

    def test_a_late_within_a_half_and_a_half_within_a_late(self):
        program = program_of(
            "spring x 1", "brook a half late 9 sum x b", "brook b twice late 5 half c", "brook c sum x late 1 c",
            "out a")
        self.assertEqual(plain_run(program, {"x": whole(1, 1, 1, 1, 1, 1, 1)}, 7), {
            "a": whole(9, 6, 3, 5), "b": whole(5, 5, 2, 2, 4, 4, 6), "c": whole(2, 3, 4, 5, 6, 7, 8)})

    def test_counts(self):
        program = program_of(
            "spring x 4", "brook n sum 1 late 0 n", "brook both sum half half n x", "brook four most 4 0 n", "out n")
        told = plain_run(program, {"x": whole(100, 200)}, 8)
        self.assertEqual(told, {
            "n": whole(1, 2, 3, 4, 5, 6, 7, 8), "both": whole(101, 205), "four": whole(1, 2, 3, 4, 5, 6, 7, 8)})

    def test_powers(self):
        program = one_brook(("by", (2, 1), ("late", HALF, ("sum", A, ("less", X, X)))), ("x", 1))
        told = plain_run(program, {"x": whole(*[5] * 64)}, 64)["a"]
        self.assertEqual(told, [(2 ** n, 1) for n in range(64)])


class Runs(unittest.TestCase):
    def test_big(self):
        told = plain_run(BIG, {"x": whole(1, 2, 3, 4, 5, 6), "y": whole(1, 1, 20)}, 6)
        self.assertEqual(told, {
            "acc": whole(1, 3, 6, 10, 15, 21), "thin": whole(1, 6, 15), "both": whole(0, 5, -5),
            "thick": whole(0, 0, 5, 5, 5, 5),
        })
        self.assertEqual(list(told), ["acc", "thin", "both", "thick"])
        self.assertEqual(plain_run(program=BIG, given={"x": whole(1), "y": whole(3)}, beats=1), {
            "acc": whole(1), "thin": whole(1), "both": whole(-2), "thick": whole(0)})

    def test_no_beats(self):
        self.assertEqual(plain_run(BIG, {"x": [], "y": []}, 0), {"acc": [], "thin": [], "both": [], "thick": []})

    def test_some_programs(self):
        dice = random.Random(5)
        for program in some_good_programs(41, 250) + [one for one in some_programs(42, 250) if self.looked_at(one)]:
            for beats in (0, 1, dice.randint(2, 23), 24, 64):
                given = some_given(dice, program[0], beats, dice.choice([0, 0, 3]))
                self.assertEqual(plain_run(program, given, beats), told_by(program, given, beats))

    def looked_at(self, program):
        try:
            look(program)
        except REFUSED:
            return False
        return True

    def test_told_beyond_the_bounds(self):
        term = X
        for _ in range(300):
            term = ("sum", ("late", ONE, term), FIX)
        program = with_brook(one_brook(X, ("x", 1)), "deep", term)
        self.assertEqual(plain_run(program, {"x": whole(5, 6)}, 2)["deep"], whole(2, 3))
        self.assertEqual(plain_run(with_brook(program, "wide", ("over", 40, ONE, X)), {"x": whole(5, 6)}, 2)["wide"], whole(44, 49))

    def test_a_brook_named_by_another_has_a_list_of_its_own(self):
        program = program_of("spring x 1", "brook a x", "brook b a", "brook c b", "out c")
        given = {"x": whole(1, 2)}
        told = plain_run(program, given, 2)
        lists = [*told.values(), given["x"]]
        for at, one in enumerate(lists):
            for other in lists[:at]:
                self.assertIsNot(one, other)
        told["a"].clear()
        told["c"].append(None)
        self.assertEqual(told, {"a": [], "b": whole(1, 2), "c": whole(1, 2) + [None]})
        self.assertEqual(given, {"x": whole(1, 2)})
        self.assertEqual(plain_run(program, given, 2), {"a": whole(1, 2), "b": whole(1, 2), "c": whole(1, 2)})


class Refused(unittest.TestCase):
    def not_given(self, program, given, beats, name):
        with self.assertRaises(NotGiven) as caught:
            plain_run(program, given, beats)
        self.assertIs(type(caught.exception), NotGiven)
        self.assertEqual(caught.exception.name, name)

    def test_not_given(self):
        program = one_brook(X, ("x", 2), ("b", 1), ("y", 16))
        for beats, needs in [(0, (0, 0, 0)), (1, (1, 1, 1)), (2, (1, 2, 1)), (3, (2, 3, 1)), (16, (8, 16, 1)),
                             (17, (9, 17, 2)), (64, (32, 64, 4))]:
            full = {name: whole(*range(many)) for name, many in zip("xby", needs)}
            self.assertEqual(len(plain_run(program, full, beats)["a"]), needs[0])
            for name, many in zip("xby", needs):
                without = {other: full[other] for other in full if other != name}
                self.not_given(program, without, beats, name)
                if many > 0:
                    self.not_given(program, {**full, name: full[name][:-1]}, beats, name)
                    self.not_given(program, {**full, name: []}, beats, name)

    def test_the_first_one_rising(self):
        program = one_brook(X, ("x", 1), ("y", 1), ("b", 1))
        self.not_given(program, {}, 0, "b")
        self.not_given(program, {"b": []}, 0, "x")
        self.not_given(program, {"b": [], "x": []}, 0, "y")
        self.not_given(program, {"y": whole(1), "x": whole(1)}, 1, "b")
        self.not_given(program, {"b": whole(1), "x": [], "y": []}, 1, "x")

    def test_names_that_are_no_springs_do_not_matter(self):
        given = {"x": whole(1), "y": whole(2), "a": whole(7), "zz": None, "": [], "beat": whole(3)}
        self.assertEqual(plain_run(one_brook(("sum", X, Y)), given, 1), {"a": whole(3)})
        self.not_given(one_brook(X), {"x": whole(1), "a": whole(1)}, 1, "y")

    def test_refused_as_look_is_ahead_of_that(self):
        check_refused_as_look_is(self, 43, lambda program: plain_run(program, {}, 4))
        full = {name: whole(*range(4)) for name in "xyz"}
        check_refused_as_look_is(self, 44, lambda program: plain_run(program, full, 4))


if __name__ == "__main__":
    unittest.main()
