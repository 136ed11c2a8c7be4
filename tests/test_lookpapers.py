"""Papers of the look, that it can be done or why not. [8]"""

import itertools
import unittest

from brookworks.errors import Clash, Loose, Round, TooFar
from brookworks.lookpapers import clash_paper, look_paper, shows_clash, shows_look, shows_round
from brookworks.looks import look, periods_of, rules_of
from brookworks.programs import brook_names, uses_of
from tests.helpers import A, BIG, FIX, X, Y, ZERO, halves, one_brook, program_of, some_programs
from tests.oracle import REFUSED, check_refused_as_look_is, some_good_programs
from tests.spoiling import ODD, spoilt_things


# c stands first, though it uses the others; e uses itself in a late.
TANGLED = program_of(
    "spring x 1", "spring y 2",
    "brook c sum a half b", "brook b x", "brook a late 0 c", "brook e sum y late 1 e", "brook d less e a",
    "out c", "out d",
)
CLASHING = program_of("spring x 1", "brook a sum x b", "brook b half x", "brook c less x half x", "out a")
RINGED = program_of("spring x 2", "brook z sum b c", "brook a twice b", "brook b sum x c", "brook c half a", "out z")


def is_order(program, order):
    """By [8] word by word."""
    names = brook_names(program)
    if len(order) != len(names) or any(name not in order for name in names):
        return False
    for at, name in enumerate(order):
        for other in uses_of(program, name, now=True):
            if other in names and other not in order[:at]:
                return False
    return True


def order_awaited(program):
    order = []
    while len(order) < len(program[1]):
        for name in brook_names(program):
            used = [other for other in uses_of(program, name, now=True) if other in brook_names(program)]
            if name not in order and all(other in order for other in used):
                order.append(name)
                break
    return order


def is_clash(program, thing):
    """By [8] word by word, of a list of pairs of whole numbers."""
    rules = rules_of(program)
    begins, leads, powers = [], [], 0
    for number, way in thing:
        place, other, power = rules[number]
        begins.append(place if way == 1 else other)
        leads.append(other if way == 1 else place)
        powers += power * way
    if not thing or len(set(begins)) < len(begins):
        return False
    return powers != 0 and all(leads[at - 1] == begins[at] for at in range(len(thing)))


def is_list_of_steps(program, thing):
    if type(thing) is not list:
        return False
    for step in thing:
        if type(step) is not tuple or len(step) != 2 or not all(type(one) is int for one in step):
            return False
        if not 0 <= step[0] < len(rules_of(program)) or step[1] not in (1, -1):
            return False
    return True


class LookPapers(unittest.TestCase):
    def test_the_pair(self):
        self.assertEqual(look_paper(BIG), (periods_of(BIG), ["acc", "thin", "both", "thick"]))
        self.assertEqual(look_paper(TANGLED), (periods_of(TANGLED), ["b", "a", "c", "e", "d"]))
        paper = look_paper(program=TANGLED)
        self.assertEqual([type(thing) for thing in (paper, *paper)], [tuple, list, list])

    def test_the_first_that_can_stands_next(self):
        program = program_of(
            "spring x 1", "brook d a", "brook c x", "brook b c", "brook a x", "brook e d", "out d")
        self.assertEqual(look_paper(program)[1], ["c", "b", "a", "d", "e"])

    def test_some_programs(self):
        for program in some_good_programs(3, 300):
            paper = look_paper(program)
            self.assertEqual(paper, (periods_of(program), order_awaited(program)))
            self.assertIs(shows_look(program, paper), True)

    def test_refused_as_look_is(self):
        check_refused_as_look_is(self, 11, look_paper)

    def test_any_order_that_is_so_is_shown(self):
        for program in [BIG, TANGLED] + [one for one in some_good_programs(4, 60) if len(one[1]) <= 5]:
            periods = periods_of(program)
            for order in itertools.permutations(brook_names(program)):
                told = shows_look(program, (periods, list(order)))
                self.assertIs(told, is_order(program, list(order)), (program, order))

    def test_spoilt_papers_are_not_shown(self):
        for program in (BIG, TANGLED, one_brook(X), one_brook(("sum", ("late", ZERO, A), Y))):
            periods, order = look_paper(program)
            for thing in spoilt_things((periods, order)):
                # Only another order that is so, or by chance the same, is shown.
                so = type(thing) is tuple and len(thing) == 2 and repr(thing[0]) == repr(periods)
                so = so and type(thing[1]) is list and is_order(program, thing[1])
                self.assertIs(shows_look(program, thing), so, thing)

    def test_a_name_otherwise_out_twice(self):
        periods, order = look_paper(BIG)
        for other in (
            order[:-1], order + ["acc"], order + ["x"], ["x"] + order, ["acc", "acc", "both", "thick"],
            tuple(order), [*order[:-1], ["thick"]], [*order[:-1], None], [], None, "acc",
        ):
            self.assertIs(shows_look(BIG, (periods, other)), False)
        self.assertIs(shows_look(BIG, [periods, order]), False)
        self.assertIs(shows_look(BIG, (tuple(periods), order)), False)
        self.assertIs(shows_look(BIG, (periods, order, None)), False)
        self.assertIs(shows_look(BIG, (order, periods)), False)

    def test_true_is_not_one(self):
        periods, order = look_paper(BIG)
        self.assertEqual(periods[0], (("acc", (0,)), 1))
        self.assertIs(shows_look(BIG, ([(("acc", (0,)), True)] + periods[1:], order)), False)
        self.assertIs(shows_look(BIG, ([(("acc", (False,)), 1)] + periods[1:], order)), False)
        self.assertIs(shows_look(BIG, ([(["acc", (0,)], 1)] + periods[1:], order)), False)
        self.assertIs(shows_look(BIG, ([(("acc", [0]), 1)] + periods[1:], order)), False)
        self.assertIs(shows_look(BIG, ([[("acc", (0,)), 1]] + periods[1:], order)), False)

    def test_beside_programs_that_cannot_be_looked_at_none_is_shown(self):
        for program, periods in [
            (one_brook(FIX), [(("a", ()), 1)]),
            (one_brook(A), [(("a", ()), 1)]),
            (one_brook(halves(5, X)), [(("a", (0,) * deep), 2 ** (5 - deep)) for deep in (5, 4, 3, 2, 1, 0)]),
            (one_brook(("sum", X, Y), ("x", 1), ("y", 2)), [(("a", (0,)), 1), (("a", (1,)), 2), (("a", ()), 1)]),
        ]:
            self.assertRaises(REFUSED, look, program)
            for thing in [(periods, ["a"]), ([], ["a"]), ([], []), *ODD]:
                self.assertIs(shows_look(program, thing), False)

    def test_things_of_any_kind(self):
        for program in (BIG, TANGLED, CLASHING, RINGED):
            for thing in ODD:
                for shows in (shows_look, shows_round, shows_clash):
                    self.assertIs(shows(program, thing), False, (shows, thing))
                    self.assertIs(shows(program, (thing, thing)), False)
                    self.assertIs(shows(program, [thing, thing]), False)
                    self.assertIs(shows(program=program, thing=[[thing] * 3] * 3), False)


class RoundPapers(unittest.TestCase):
    def test_a_told_ring_is_shown(self):
        many = 0
        for program in [RINGED, one_brook(A), *some_programs(21, 600)]:
            try:
                look(program)
            except Round as refused:
                self.assertIs(shows_round(program, refused.ring), True)
                many += 1
            except (Clash, Loose, TooFar):
                pass
        self.assertGreater(many, 50)

    def test_each_way_round(self):
        for ring in (["a", "b", "c"], ["b", "c", "a"], ["c", "a", "b"]):
            self.assertIs(shows_round(RINGED, ring), True)
        for ring in (["a", "c", "b"], ["a", "b"], ["a"], ["z", "a", "b", "c"], ["a", "b", "c"] * 2, [], ["x"],
                     ("a", "b", "c"), ["a", "b", ["c"]], ["a", "b", "c", None], [True], "abc", None):
            self.assertIs(shows_round(RINGED, ring), False)
        self.assertIs(shows_round(one_brook(A), ["a"]), True)
        self.assertIs(shows_round(one_brook(("late", ZERO, A)), ["a"]), False)

    def test_all_rings_of_up_to_four(self):
        for program in [RINGED, *some_programs(22, 150)]:
            names = brook_names(program) + ["x"]
            for long in (1, 2, 3, 4):
                for ring in itertools.product(names, repeat=long):
                    so = len(set(ring)) == long and "x" not in ring and all(
                        ring[at] in uses_of(program, ring[at - 1], now=True) for at in range(long))
                    self.assertIs(shows_round(program, list(ring)), so)

    def test_spoilt_rings(self):
        for thing in spoilt_things(["a", "b", "c"]):
            so = thing in (["a", "b", "c"], ["b", "c", "a"], ["c", "a", "b"])
            self.assertIs(shows_round(RINGED, thing), so, thing)


class ClashPapers(unittest.TestCase):
    def test_none_where_all_rules_can_be_kept(self):
        for program in (
            BIG, TANGLED, RINGED,
            one_brook(FIX), one_brook(("half", ("sum", FIX, FIX))), one_brook(("twice", X)), one_brook(halves(7, X)),
            one_brook(A), *some_good_programs(5, 100),
        ):
            self.assertIsNone(clash_paper(program))
            self.assertIs(shows_clash(program, None), False)
            self.assertIs(shows_clash(program, []), False)

    def test_of_a_clash(self):
        for program in (
            CLASHING,
            one_brook(("sum", X, Y), ("x", 1), ("y", 2)),
            one_brook(("late", ZERO, ("half", A))),
            # With a ring now as well, ahead of which look would not come to the rules.
            one_brook(("sum", A, ("half", A))),
            program_of("spring x 1", "brook a late 0 twice b", "brook b late 0 a", "out a"),
        ):
            paper = clash_paper(program)
            self.assertTrue(is_list_of_steps(program, paper))
            self.assertTrue(is_clash(program, paper))
            self.assertIs(shows_clash(program, paper), True)

    def test_of_some_programs(self):
        many = 0
        for program in some_programs(31, 1500):
            paper = clash_paper(program)
            try:
                periods_of(program)
            except Clash as refused:
                self.assertTrue(is_list_of_steps(program, paper))
                self.assertTrue(is_clash(program, paper), (program, paper))
                # None stands behind the first that can't be kept: without that one there'd be no clash.
                self.assertEqual(max(number for number, way in paper), refused.number)
                self.assertIs(shows_clash(program, paper), True)
                many += 1
            except (Loose, TooFar):
                self.assertIsNone(paper)
            except Round:
                if paper is not None:
                    self.assertTrue(is_clash(program, paper))
            else:
                self.assertIsNone(paper)
        self.assertGreater(many, 100)

    def test_any_such_list_is_shown(self):
        paper = clash_paper(CLASHING)
        turned = paper[1:] + paper[:1]
        back = [(number, -way) for number, way in paper[::-1]]
        for thing in (turned, back, back[1:] + back[:1]):
            self.assertIs(shows_clash(CLASHING, thing), True)
        # Of a rule behind the first that can't be kept, too.
        rules = rules_of(CLASHING)
        behind = [(rules.index((("c", ()), ("c", (0,)), 0)), 1), (rules.index((("c", (0,)), "beat", 0)), 1),
                  (rules.index((("c", (1, 0)), "beat", 0)), -1), (rules.index((("c", (1,)), ("c", (1, 0)), -1)), -1),
                  (rules.index((("c", ()), ("c", (1,)), 0)), -1)]
        self.assertIs(shows_clash(CLASHING, behind), True)

    def test_where_another_one_begins(self):
        paper = clash_paper(CLASHING)
        self.assertIs(shows_clash(CLASHING, paper + paper), False)
        number, way = paper[0]
        # There and back, ahead of the round itself.
        self.assertIs(shows_clash(CLASHING, [(number, way), (number, -way)] + paper), False)

    def test_powers_that_come_to_none(self):
        program = one_brook(("sum", X, X))
        rules = rules_of(program)
        self.assertEqual(len(rules), 4)
        self.assertIs(shows_clash(program, [(2, 1), (0, 1), (1, -1), (3, -1)]), False)
        self.assertIs(shows_clash(one_brook(("sum", X, Y), ("x", 1), ("y", 2)), [(2, 1), (0, 1), (1, -1), (3, -1)]), True)
        self.assertIs(shows_clash(one_brook(A), [(0, 1)]), False)
        self.assertIs(shows_clash(one_brook(A), [(0, -1)]), False)

    def test_spoilt_papers(self):
        for program in (CLASHING, one_brook(("late", ZERO, ("half", A)))):
            paper = clash_paper(program)
            for thing in spoilt_things(paper):
                so = is_list_of_steps(program, thing) and is_clash(program, thing)
                self.assertIs(shows_clash(program, thing), so, thing)
                if so:
                    self.assertEqual(len(thing), len(paper))

    def test_numbers_of_no_rule(self):
        program = one_brook(("late", ZERO, ("half", A)))
        paper = clash_paper(program)
        many = len(rules_of(program))
        shifted = [(number - many, way) for number, way in paper]
        self.assertIs(shows_clash(program, shifted), False)
        self.assertEqual(max(paper), (many - 1, 1))
        self.assertIs(shows_clash(program, [(-1, 1) if step == max(paper) else step for step in paper]), False)
        self.assertIs(shows_clash(program, [(many, 1) if step == max(paper) else step for step in paper]), False)
        self.assertIs(shows_clash(program, [(number, way == 1) for number, way in paper]), False)


class Own(unittest.TestCase):
    def test_what_is_told_is_the_askers_own(self):
        periods, order = look_paper(TANGLED)
        again = look_paper(TANGLED)
        self.assertIsNot(periods, again[0])
        self.assertIsNot(order, again[1])
        periods.clear()
        order.reverse()
        self.assertEqual(look_paper(TANGLED), again)
        paper = clash_paper(CLASHING)
        again = clash_paper(CLASHING)
        self.assertIsNot(paper, again)
        paper.clear()
        self.assertEqual(clash_paper(program=CLASHING), again)
        for program, shows, thing in [
            (TANGLED, shows_look, look_paper(TANGLED)), (CLASHING, shows_clash, again),
            (RINGED, shows_round, ["a", "b", "c"]),
        ]:
            written = repr(thing)
            self.assertIs(shows(program=program, thing=thing), True)
            self.assertIs(shows(program, thing), True)
            self.assertEqual(repr(thing), written)


if __name__ == "__main__":
    unittest.main()
