"""Programs done beat by beat. [10]"""

import random
import unittest

from brookworks.errors import Dry, NoSpring
from brookworks.looks import look, periods_of
from brookworks.plain import plain_run
from brookworks.programs import places_of, with_brook
from brookworks.streams import Streams
from brookworks.terms import part_at
from brookworks.texts import term_in
from tests.helpers import A, BIG, HALF, ONE, X, Y, ZERO, one_brook, program_of, whole
from tests.oracle import Oracle, as_number, check_refused_as_look_is, some_given, some_good_programs


def fed(program, **given):
    streams = Streams(program)
    for name, numbers in given.items():
        streams.feed(name, whole(*numbers))
    return streams


def rows_awaited(program, given, beats):
    """What the outs tell at each beat, by plain_run."""
    told = plain_run(program, given, beats)
    periods = dict(look(program))
    return [
        [(name, told[name][beat // periods[name]]) for name in program[2] if beat % periods[name] == 0]
        for beat in range(beats)
    ]


def kept_awaited(program, oracle, beat):
    """What's kept ahead of that beat, by [10] word by word."""
    periods = dict(periods_of(program))
    kept = []
    for place in places_of(program):
        name, path = place
        part = part_at(dict(program[1])[name], path)
        done = -(-beat // periods[place])
        if part[0] == "late":
            numbers = [oracle.number(name, path, done)]
        elif part[0] in ("most", "least", "over"):
            # In a row of these the oldest ones are thought ahead of number 0.
            numbers = [
                oracle.number(name, path + (0,), at) if at >= 0 else None
                for at in range(done - part[1] + 1, done)
            ]
            kept.append((place, tuple(part[2] if one is None else as_number(one) for one in numbers)))
            continue
        elif part[0] == "twice":
            numbers = [oracle.number(name, path + (0,), done // 2)] if done % 2 == 1 else []
        else:
            continue
        kept.append((place, tuple(as_number(one) for one in numbers)))
    return kept


class Steps(unittest.TestCase):
    def test_big(self):
        streams = fed(BIG, x=[1, 2, 3, 4], y=[1, 1])
        self.assertEqual(streams.step(), [("acc", (1, 1)), ("thick", (0, 1)), ("both", (0, 1))])
        self.assertEqual(streams.step(), [("acc", (3, 1)), ("thick", (0, 1))])
        self.assertEqual(streams.run(2), [
            [("acc", (6, 1)), ("thick", (5, 1)), ("both", (5, 1))],
            [("acc", (10, 1)), ("thick", (5, 1))],
        ])
        self.assertEqual(streams.run(beats=0), [])
        self.assertEqual((streams.beat(), len(streams)), (4, 4))

    def test_outs_alone_in_their_order(self):
        program = program_of("spring x 1", "brook a x", "brook b half x", "brook c by 2 x", "out c", "out a")
        self.assertEqual(fed(program, x=[1, 2]).run(2), [
            [("c", (2, 1)), ("a", (1, 1))], [("c", (4, 1)), ("a", (2, 1))]])
        program = program_of("spring x 1", "brook a x", "brook b half x", "out b")
        self.assertEqual(fed(program, x=[1, 2, 3]).run(3), [[("b", (1, 1))], [], [("b", (3, 1))]])

    def test_by_turns_of_some_programs(self):
        dice = random.Random(6)
        for program in some_good_programs(51, 150):
            beats = dice.choice([1, 5, 17, 40])
            given = some_given(dice, program[0], beats, dice.choice([0, 2]))
            awaited = rows_awaited(program, given, beats)
            ahead = Streams(program)
            for name in given:
                ahead.feed(name, given[name])
            self.assertEqual(ahead.run(beats), awaited)
            streams = Streams(program)
            told = []
            rest = {name: list(given[name]) for name in given}
            while len(told) < beats:
                self.assertEqual((streams.beat(), len(streams)), (len(told), len(told)))
                many = dice.choice([1, 1, 2, 3, 7])
                for name in rest:
                    cut = dice.randint(0, 4)
                    streams.feed(name=name, numbers=rest[name][:cut])
                    rest[name] = rest[name][cut:]
                many = min(many, beats - len(told))
                try:
                    told.extend(streams.run(many) if many > 1 else [streams.step()])
                except Dry as dry:
                    self.assertEqual(streams.beat(), len(told))
                    streams.feed(dry.name, rest[dry.name])
                    rest[dry.name] = []
            self.assertEqual(told, awaited)

    def test_bare_lists_and_more_than_wanted(self):
        streams = fed(one_brook(X, ("x", 2)), x=[1, 2, 3])
        streams.feed("x", [])
        self.assertEqual(streams.left("x"), whole(1, 2, 3))
        self.assertEqual(streams.run(2), [[("a", (1, 1))], []])
        streams.feed("x", [])
        self.assertEqual(streams.left("x"), whole(2, 3))
        streams.feed("x", whole(4))
        self.assertEqual(streams.left(name="x"), whole(2, 3, 4))
        self.assertEqual(streams.run(6), [[("a", (2, 1))], [], [("a", (3, 1))], [], [("a", (4, 1))], []])
        self.assertEqual(streams.left("x"), [])

    def test_nothing_is_told_by_feed(self):
        self.assertIsNone(Streams(BIG).feed("x", whole(1)))

    def test_told_beyond_the_bounds(self):
        term = X
        for _ in range(300):
            term = ("twice", ("half", ("late", ONE, term)))
        streams = fed(with_brook(one_brook(X, ("x", 1)), "a", term), x=range(6))
        self.assertEqual(streams.run(4), [[("a", (1, 1))]] * 4)
        self.assertEqual(len(streams.kept()), 600)


class Kept(unittest.TestCase):
    def test_of_each(self):
        program = one_brook(term_in("sum late 7 x sum most 2 1 x sum least 3 2 x sum over 5 1/2 x twice late 3 half x"), ("x", 1))
        streams = fed(program, x=[10, 11, 12, 13, 14])
        two, half, seven, three = (2, 1), (1, 2), (7, 1), (3, 1)
        late, most = ("a", (0,)), ("a", (1, 0))
        least, over = ("a", (1, 1, 0)), ("a", (1, 1, 1, 0))
        inner, twice = ("a", (1, 1, 1, 1, 0)), ("a", (1, 1, 1, 1))
        for awaited in [
            [(late, (seven,)), (most, (ONE,)), (least, (two, two)), (over, (half,) * 4), (inner, (three,)), (twice, ())],
            [(late, ((10, 1),)), (most, ((10, 1),)), (least, (two, (10, 1))), (over, (half, half, half, (10, 1))),
             (inner, ((10, 1),)), (twice, (three,))],
            [(late, ((11, 1),)), (most, ((11, 1),)), (least, ((10, 1), (11, 1))),
             (over, (half, half, (10, 1), (11, 1))), (inner, ((10, 1),)), (twice, ())],
            [(late, ((12, 1),)), (most, ((12, 1),)), (least, ((11, 1), (12, 1))),
             (over, (half, (10, 1), (11, 1), (12, 1))), (inner, ((12, 1),)), (twice, ((10, 1),))],
            [(late, ((13, 1),)), (most, ((13, 1),)), (least, ((12, 1), (13, 1))),
             (over, ((10, 1), (11, 1), (12, 1), (13, 1))), (inner, ((12, 1),)), (twice, ())],
        ]:
            self.assertEqual(streams.kept(), awaited)
            streams.step()
        self.assertEqual(Streams(one_brook(X)).kept(), [])

    def test_at_each_beat_of_some_programs(self):
        dice = random.Random(8)
        for program in some_good_programs(52, 120):
            given = some_given(dice, program[0], 41, 4)
            streams = Streams(program)
            for name in given:
                streams.feed(name, given[name])
            oracle = Oracle(program, given)
            for beat in range(40):
                told = streams.kept()
                self.assertEqual(told, kept_awaited(program, oracle, beat), (program, beat))
                for name, period in program[0]:
                    self.assertEqual(streams.left(name), given[name][-(-beat // period):])
                streams.step()

    def test_in_order_of_places(self):
        program = program_of(
            "spring x 2", "brook c twice late 1 late 2 x", "brook b most 2 0 c", "brook a late 3 b", "out b")
        self.assertEqual([place for place, _ in Streams(program).kept()], [
            ("c", (0, 0)), ("c", (0,)), ("c", ()), ("b", ()), ("a", ())])


class Refused(unittest.TestCase):
    def test_as_look_is(self):
        check_refused_as_look_is(self, 53, Streams)
        self.assertEqual(Streams(program=BIG), Streams(BIG))

    def test_no_spring(self):
        streams = fed(BIG, x=[1])
        for name in ("acc", "thick", "z", "", "beat", "x "):
            for ask in (lambda: streams.feed(name, whole(1)), lambda: streams.feed(name, []), lambda: streams.left(name)):
                with self.assertRaises(NoSpring) as caught:
                    ask()
                self.assertIs(type(caught.exception), NoSpring)
                self.assertEqual(caught.exception.name, name)
        self.assertEqual(streams, fed(BIG, x=[1]))

    def dry(self, streams, name, ask):
        before = streams.like()
        with self.assertRaises(Dry) as caught:
            ask()
        self.assertIs(type(caught.exception), Dry)
        self.assertEqual(caught.exception.name, name)
        self.assertEqual(streams, before)
        self.assertEqual((streams.beat(), streams.kept()), (before.beat(), before.kept()))
        for spring in ("x", "y", "b"):
            self.assertEqual(streams.left(spring), before.left(spring))

    def test_dry_of_a_step(self):
        # Neither y nor b is used.
        program = one_brook(("sum", X, ("late", ZERO, A)), ("x", 2), ("y", 1), ("b", 4))
        streams = Streams(program)
        self.dry(streams, "b", streams.step)
        streams.feed("b", whole(1))
        self.dry(streams, "x", streams.step)
        streams.feed("x", whole(1))
        self.dry(streams, "y", streams.step)
        streams.feed("y", whole(1))
        self.assertEqual(streams.step(), [("a", (1, 1))])
        self.dry(streams, "y", streams.step)
        streams.feed("y", whole(1, 1))
        self.assertEqual(streams.step(), [])
        self.dry(streams, "x", streams.step)
        streams.feed("x", whole(5))
        self.assertEqual(streams.step(), [("a", (6, 1))])
        streams.feed("y", whole(1, 1))
        self.assertEqual(streams.step(), [])
        self.dry(streams, "b", streams.step)

    def test_dry_of_a_run(self):
        program = one_brook(("sum", X, ("late", ZERO, A)), ("x", 2), ("y", 1), ("b", 4))
        streams = fed(program, x=[1, 2, 3], y=[0] * 5, b=[1])
        for beats, name in [(5, "b"), (6, "b"), (64, "b"), (7, "b")]:
            self.dry(streams, name, lambda: streams.run(beats))
        streams.feed("b", whole(2))
        self.dry(streams, "x", lambda: streams.run(7))
        self.dry(streams, "y", lambda: streams.run(6))
        self.assertEqual(len(streams.run(5)), 5)
        self.dry(streams, "y", lambda: streams.run(1))
        self.assertEqual(streams.run(0), [])
        streams.feed("y", whole(1, 1, 1))
        self.dry(streams, "x", lambda: streams.run(2))
        self.assertEqual(streams.run(1), [[]])

    def test_needs_of_a_run_from_any_beat(self):
        for begun in range(18):
            for beats in range(20):
                for period in (1, 2, 4, 8, 16):
                    need = len([beat for beat in range(begun, begun + beats) if beat % period == 0])
                    streams = fed(one_brook(X, ("x", period)), x=[0] * len(range(0, begun, period)))
                    streams.run(begun)
                    if need > 0:
                        streams.feed("x", whole(*[1] * (need - 1)))
                        self.assertRaises(Dry, streams.run, beats)
                        streams.feed("x", whole(1))
                    self.assertEqual(len(streams.run(beats)), beats)
                    self.assertEqual(streams.left("x"), [])


class Likes(unittest.TestCase):
    def test_goes_on_by_itself(self):
        streams = fed(BIG, x=[1, 2, 3, 4], y=[1, 1, 1])
        streams.run(2)
        other = streams.like()
        self.assertIsNot(streams, other)
        self.assertTrue(streams == other)
        self.assertFalse(streams != other)
        self.assertEqual(other.step(), [("acc", (6, 1)), ("thick", (5, 1)), ("both", (5, 1))])
        self.assertEqual((streams.beat(), len(streams), len(other)), (2, 2, 3))
        self.assertFalse(streams == other)
        other.feed("x", whole(9))
        self.assertEqual(streams.left("x"), whole(3, 4))
        self.assertEqual(streams.step(), [("acc", (6, 1)), ("thick", (5, 1)), ("both", (5, 1))])
        self.assertFalse(streams == other)
        streams.feed("x", whole(9))
        self.assertTrue(streams == other)
        streams.run(2)
        self.assertEqual((other.beat(), other.left("x")), (3, whole(4, 9)))

    def test_equal(self):
        program = one_brook(("late", ZERO, X), ("x", 1))
        self.assertTrue(Streams(program) == Streams(program))
        # Another program.
        self.assertFalse(Streams(program) == Streams(one_brook(("late", ONE, X), ("x", 1))))
        self.assertFalse(Streams(one_brook(X, ("x", 1))) == Streams(one_brook(X, ("x", 2))))
        # What's left.
        self.assertFalse(Streams(program) == fed(program, x=[1]))
        self.assertTrue(fed(program, x=[1, 2]) == fed(program, x=[1, 2]))
        # The beat, all else being the same.
        one = fed(one_brook(X, ("x", 1)), x=[1])
        one.step()
        self.assertFalse(one == Streams(one_brook(X, ("x", 1))))
        # What's kept, all else being the same.
        one, other, third = fed(program, x=[1]), fed(program, x=[2]), fed(program, x=[1])
        for streams in (one, other, third):
            streams.step()
        self.assertFalse(one == other)
        self.assertTrue(one == third)
        self.assertTrue(one != other)

    def test_nothing_of_another_class(self):
        streams = Streams(BIG)
        for other in (None, BIG, 0, "", [], streams.kept(), True, False):
            self.assertFalse(streams == other)
            self.assertFalse(other == streams)
            self.assertTrue(streams != other)

    def test_len_is_how_many_are_done(self):
        streams = fed(one_brook(X, ("x", 1)), x=range(70))
        self.assertEqual(len(streams), 0)
        for beats in range(1, 65):
            streams.step()
            self.assertEqual((len(streams), streams.beat()), (beats, beats))


class Own(unittest.TestCase):
    def test_told_lists_are_the_askers_own(self):
        streams = fed(BIG, x=[1, 2, 3, 4], y=[1, 1, 1])
        for ask in (streams.kept, lambda: streams.left("x"), lambda: streams.left("y")):
            told, again = ask(), ask()
            self.assertIs(type(told), list)
            self.assertIsNot(told, again)
            told.clear()
            told.append(None)
            self.assertEqual(ask(), again)
        rows = streams.run(2)
        kept = [list(row) for row in rows]
        rows[0].clear()
        self.assertEqual(rows[1], kept[1])
        self.assertEqual(streams.step(), [("acc", (6, 1)), ("thick", (5, 1)), ("both", (5, 1))])

    def test_what_is_handed_in_is_not_kept(self):
        numbers = whole(1, 2)
        streams = Streams(one_brook(("sum", X, Y)))
        streams.feed("x", numbers)
        streams.feed("y", numbers)
        numbers.append((9, 1))
        numbers[0] = None
        self.assertEqual((streams.left("x"), streams.left("y")), (whole(1, 2), whole(1, 2)))
        self.assertEqual(streams.run(2), [[("a", (2, 1))], [("a", (4, 1))]])
        self.assertEqual(numbers, [None, (2, 1), (9, 1)])
        # What was told may be handed in again.
        streams.feed("x", whole(3))
        streams.feed("x", streams.left("x"))
        self.assertEqual(streams.left("x"), whole(3, 3))

    def test_numbers_are_numbers(self):
        streams = fed(one_brook(("by", HALF, X), ("x", 1)), x=[1, 2])
        self.assertEqual(streams.run(2), [[("a", (1, 2))], [("a", (1, 1))]])
        for row in fed(BIG, x=[1], y=[1]).run(1):
            self.assertIs(type(row), list)
            for pair in row:
                self.assertEqual((type(pair), type(pair[1])), (tuple, tuple))


if __name__ == "__main__":
    unittest.main()
