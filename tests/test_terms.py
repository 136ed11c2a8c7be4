"""TERMs: what is one, their PATHs and parts. [2], [3], [5]"""

import unittest

from brookworks.errors import NoPath
from brookworks.limits import KEYWORDS
from brookworks.terms import deep_of, is_term, names_in, part_at, parts_of, paths_of, put_at
from tests.helpers import FIX, FORMS, HALF, THINGS, X, Y, ZERO, halves, spoilt, wide_term

NESTED = ("pick", ("late", ZERO, ("sum", X, Y)), ("by", HALF, ("half", X)), ("over", 2, ZERO, FIX))


def window(k, term=X):
    return ("over", k, ZERO, term)


def sums(*terms):
    return terms[0] if len(terms) == 1 else ("sum", terms[0], sums(*terms[1:]))


class WhatIsATerm(unittest.TestCase):
    def is_none(self, thing):
        with self.subTest(thing):
            self.assertIs(is_term(thing), False)

    def test_each_form(self):
        for term in FORMS + [NESTED]:
            with self.subTest(term):
                self.assertIs(is_term(term), True)
                self.assertIs(is_term(thing=term), True)

    def test_things(self):
        for thing in THINGS:
            self.is_none(thing)

    def test_deep_and_great_things(self):
        deep = []
        for _ in range(19):
            deep = [deep]
        self.is_none(deep)
        self.is_none(["sum"] * 8000)
        self.is_none(("sum",) * 8000)
        self.is_none(("sum", X, ("sum",) * 7000))
        self.is_none(halves(19, X))

    def test_words_spoilt(self):
        for term in FORMS:
            for word in ("", "Sum", "sums", "spring", "brook", "out", "beat", "x", None, True, 1, ["sum"], ("sum",)):
                self.is_none((word, *term[1:]))

    def test_things_left_out_or_twice(self):
        for term in FORMS:
            for at in range(len(term)):
                self.is_none(term[:at] + term[at + 1:])
                self.is_none(term[:at + 1] + term[at:])

    def test_forms_of_other_words(self):
        self.is_none(("by", X, HALF))
        self.is_none(("late", X, ZERO))
        self.is_none(("most", ZERO, 2, X))
        self.is_none(("fixed", X))
        self.is_none(("name", X))
        self.is_none(("name", ZERO))
        self.is_none(("sum", ZERO, X))
        self.is_none(("half", ZERO))
        self.is_none(("half", "x"))

    def test_lists_in_place_of_tuples(self):
        for term in FORMS:
            self.is_none(list(term))
            self.is_none(("half", list(term)))
        self.is_none(("fixed", [1, 1]))
        self.is_none(("by", [1, 2], X))
        self.is_none(("late", [1, 2], X))
        self.is_none(("most", 2, [1, 2], X))

    def test_true_and_false_are_no_numbers(self):
        for thing in (True, False, (True, 1), (1, True), (False, 1)):
            self.is_none(("fixed", thing))
            self.is_none(("by", thing, X))
            self.is_none(("most", 2, thing, X))
        self.is_none(("most", True, ZERO, X))
        self.is_none(("most", False, ZERO, X))

    def test_bounds_of_numbers(self):
        for number in [(99, 1), (-99, 1), (1583, 16), (-1583, 16), (1, 16), (-1, 16), (197, 2), (0, 1)]:
            self.assertIs(is_term(("fixed", number)), True)
            self.assertIs(is_term(("by", number, X)), True)
            self.assertIs(is_term(("late", number, X)), True)
            self.assertIs(is_term(("most", 2, number, X)), True)
        for number in [(100, 1), (-100, 1), (1585, 16), (-1585, 16), (199, 2), (1, 32), (-1, 32), (1, 3), (2, 2), (10 ** 900, 1)]:
            self.is_none(("fixed", number))
            self.is_none(("by", number, X))
            self.is_none(("late", number, X))
            self.is_none(("most", 2, number, X))
            self.is_none(("least", 2, number, X))
            self.is_none(("over", 2, number, X))

    def test_bounds_of_windows(self):
        for word in ("most", "least", "over"):
            for k in (2, 3, 4, 5):
                self.assertIs(is_term((word, k, ZERO, X)), True)
            for k in (1, 6, 0, -2, 10 ** 30, (2, 1), "2", None):
                self.is_none((word, k, ZERO, X))
        self.assertIs(is_term(sums(window(5), window(5), window(4), window(2))), True)
        self.assertIs(is_term(window(5, window(5, ("most", 4, ZERO, window(2))))), True)
        self.is_none(sums(window(5), window(5), window(5), window(2)))
        self.is_none(window(5, window(5, ("least", 5, ZERO, window(2)))))

    def test_bounds_of_parts(self):
        for parts in (1, 2, 59, 60):
            self.assertEqual(parts_of(wide_term(parts)), parts)
            self.assertIs(is_term(wide_term(parts)), True)
        self.is_none(wide_term(61))
        self.is_none(wide_term(200))

    def test_bounds_of_depth(self):
        self.assertIs(is_term(halves(7, X)), True)
        self.is_none(halves(8, X))
        self.assertIs(is_term(("sum", X, halves(6, X))), True)
        self.is_none(("sum", X, halves(7, X)))
        self.is_none(("sum", halves(7, X), X))

    def test_names(self):
        for name in ("a", "z", "abcdef", "name", "sums", "row", "mill"):
            self.assertIs(is_term(("name", name)), True)
        for name in ("", "abcdefg", "A", "aB", "a1", "a_b", "a b", " a", "a ", "a\n", "\u00e9", "a-", None, 1, True, ["a"], ("a",)):
            self.is_none(("name", name))
        for word in KEYWORDS:
            self.is_none(("name", word))

    def test_spoilt_at_any_depth(self):
        for term in FORMS + [NESTED]:
            for thing in spoilt(term):
                told = is_term(thing)
                self.assertIs(type(told), bool)
                if told:
                    self.assertIs(is_term(("half", thing)), True)
                    self.assertEqual(put_at(thing, (), thing), thing)


class Paths(unittest.TestCase):
    def test_paths_of(self):
        self.assertEqual(paths_of(X), [()])
        self.assertEqual(paths_of(("sum", X, Y)), [(0,), (1,), ()])
        self.assertEqual(paths_of(NESTED), [
            (0, 0, 0), (0, 0, 1), (0, 0), (0,), (1, 0, 0), (1, 0), (1,), (2, 0), (2,), (),
        ])
        self.assertEqual(paths_of(term=X), [()])

    def test_paths_of_each_form(self):
        inner = {"fixed": 0, "name": 0, "sum": 2, "less": 2, "pick": 3}
        for term in FORMS:
            many = inner.get(term[0], 1)
            self.assertEqual(paths_of(term), [(at,) for at in range(many)] + [()])

    def test_part_at(self):
        self.assertEqual(part_at(NESTED, ()), NESTED)
        self.assertEqual(part_at(NESTED, (0,)), ("late", ZERO, ("sum", X, Y)))
        self.assertEqual(part_at(NESTED, (0, 0)), ("sum", X, Y))
        self.assertEqual(part_at(NESTED, (0, 0, 1)), Y)
        self.assertEqual(part_at(NESTED, (1, 0)), ("half", X))
        self.assertEqual(part_at(NESTED, (2, 0)), FIX)
        self.assertEqual(part_at(path=(2,), term=NESTED), NESTED[3])

    def test_put_at(self):
        self.assertEqual(put_at(NESTED, (), Y), Y)
        self.assertEqual(put_at(NESTED, (0, 0, 0), FIX), ("pick", ("late", ZERO, ("sum", FIX, Y)), *NESTED[2:]))
        self.assertEqual(put_at(NESTED, (2, 0), Y), (*NESTED[:3], ("over", 2, ZERO, Y)))
        self.assertEqual(put_at(NESTED, (1,), NESTED), ("pick", NESTED[1], NESTED, NESTED[3]))
        self.assertEqual(put_at(other=X, path=(0,), term=("half", Y)), ("half", X))

    def test_each_part_is_put_back(self):
        for path in paths_of(NESTED):
            self.assertEqual(put_at(NESTED, path, part_at(NESTED, path)), NESTED)
            self.assertEqual(part_at(put_at(NESTED, path, ("half", FIX)), path), ("half", FIX))

    def test_no_path(self):
        for term in (X, FIX, NESTED, ("sum", X, Y)):
            paths = [
                (0,), (1,), (2,), (3,), (-1,), (0, 0), (0, 1), (0, -1), (2, 0, 0), (0, 0, 0, 0), (10 ** 20,), (0,) * 20,
            ]
            others = [(True,), ("0",), (None,), ((0,),)]
            for path in [path for path in paths if path not in paths_of(term)] + others:
                with self.subTest((term, path)):
                    for ask in (lambda: part_at(term, path), lambda: put_at(term, path, X)):
                        with self.assertRaises(NoPath) as caught:
                            ask()
                        self.assertEqual(caught.exception.path, path)
                        self.assertIsInstance(caught.exception, LookupError)


class Parts(unittest.TestCase):
    def test_parts_of_and_deep_of(self):
        for term, parts, deep in [(X, 1, 1), (FIX, 1, 1), (("sum", X, Y), 3, 2), (NESTED, 10, 4), (halves(7, X), 8, 8)]:
            self.assertEqual(parts_of(term), parts)
            self.assertEqual(deep_of(term), deep)
        self.assertEqual(parts_of(term=X), 1)
        self.assertEqual(deep_of(term=X), 1)
        self.assertEqual(deep_of(("sum", halves(3, X), Y)), 5)
        self.assertEqual(deep_of(("sum", Y, halves(3, X))), 5)

    def test_names_in(self):
        self.assertEqual(names_in(FIX), [])
        self.assertEqual(names_in(("sum", Y, X)), ["x", "y"])
        self.assertEqual(names_in(NESTED), ["x", "y"])
        self.assertEqual(names_in(("sum", ("name", "b"), ("late", ZERO, ("sum", ("name", "ab"), ("name", "b"))))), ["ab", "b"])
        self.assertEqual(names_in(term=X), ["x"])

    def test_terms_that_were_put_together_may_pass_the_bounds(self):
        self.assertEqual(parts_of(put_at(("sum", X, Y), (0,), wide_term(60))), 62)
        term = X
        for _ in range(200):
            term = put_at(halves(7, X), (0,) * 7, term)
        self.assertIs(is_term(term), False)
        self.assertEqual(deep_of(term), 1401)
        self.assertEqual(parts_of(term), 1401)
        self.assertEqual(part_at(term, (0,) * 1400), X)
        self.assertEqual(names_in(put_at(term, (0,) * 1400, Y)), ["y"])

    def test_what_is_told_is_the_askers_own(self):
        for ask in (lambda: paths_of(NESTED), lambda: names_in(NESTED)):
            told = ask()
            self.assertIsNot(told, ask())
            kept = list(told)
            told.append("spoilt")
            self.assertEqual(ask(), kept)


if __name__ == "__main__":
    unittest.main()
