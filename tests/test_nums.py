"""NUMBERs. [4]"""

import random
import unittest
from fractions import Fraction

from brookworks.errors import BadText
from brookworks.nums import (
    cut_of, figures_of, is_below, is_num, least_num, less_of, most_num, num_in, num_of, num_text,
    sum_of, times_of,
)

GREAT = 3 ** 200
FINE = 2 ** 150

NUMBERS = [
    (0, 1), (1, 1), (-1, 1), (2, 1), (-6, 1), (99, 1), (1, 2), (-1, 2), (3, 2), (-3, 2), (1, 4), (-5, 4),
    (7, 8), (-99, 16), (1, 64), (GREAT, 1), (-GREAT, 1), (GREAT, FINE), (-GREAT, FINE), (1, FINE), (-1, FINE),
]


def exact(one):
    return Fraction(one[0], one[1])


def num(fraction):
    return (fraction.numerator, fraction.denominator)


class Sums(unittest.TestCase):
    def test_num_of(self):
        self.assertEqual(num_of(3), (3, 1))
        self.assertEqual(num_of(0), (0, 1))
        self.assertEqual(num_of(0, 16), (0, 1))
        self.assertEqual(num_of(6, 4), (3, 2))
        self.assertEqual(num_of(-6, 4), (-3, 2))
        self.assertEqual(num_of(8, 4), (2, 1))
        self.assertEqual(num_of(-8, 8), (-1, 1))
        self.assertEqual(num_of(5, 8), (5, 8))
        self.assertEqual(num_of(GREAT * FINE, FINE * 2), (GREAT, 2))
        self.assertEqual(num_of(parts=2, number=4), (2, 1))

    def test_sums_differences_products(self):
        for one in NUMBERS:
            for other in NUMBERS:
                with self.subTest((one, other)):
                    self.assertEqual(sum_of(one, other), num(exact(one) + exact(other)))
                    self.assertEqual(less_of(one, other), num(exact(one) - exact(other)))
                    self.assertEqual(times_of(one, other), num(exact(one) * exact(other)))
                    self.assertIs(is_below(one, other), exact(one) < exact(other))

    def test_what_comes_is_a_number(self):
        for one in NUMBERS:
            for other in NUMBERS:
                for made in (sum_of(one, other), less_of(one, other), times_of(one, other)):
                    self.assertTrue(is_num(made))

    def test_by_name(self):
        self.assertEqual(sum_of(other=(1, 2), one=(1, 1)), (3, 2))
        self.assertEqual(less_of(other=(1, 2), one=(1, 1)), (1, 2))
        self.assertEqual(times_of(other=(1, 2), one=(3, 1)), (3, 2))
        self.assertIs(is_below(other=(1, 2), one=(3, 1)), False)
        self.assertEqual(least_num(some=[(1, 1)]), (1, 1))
        self.assertEqual(most_num(some=[(1, 1)]), (1, 1))
        self.assertEqual(figures_of(one=(1, 4)), 2)
        self.assertEqual(cut_of(figures=1, one=(3, 4)), (1, 2))
        self.assertIs(is_num(thing=(3, 4)), True)
        self.assertEqual(num_text(one=(3, 4)), "3/4")
        self.assertEqual(num_in(text="3/4"), (3, 4))

    def test_least_and_most(self):
        for one in NUMBERS:
            self.assertEqual(least_num([one]), one)
            self.assertEqual(most_num([one]), one)
        dice = random.Random(4)
        for _ in range(200):
            some = [dice.choice(NUMBERS) for _ in range(dice.randint(1, 6))]
            kept = list(some)
            self.assertEqual(least_num(some), min(kept, key=exact))
            self.assertEqual(most_num(some), max(kept, key=exact))
            self.assertEqual(some, kept)

    def test_least_and_most_go_by_worth(self):
        self.assertEqual(least_num([(5, 8), (3, 4), (1, 2)]), (1, 2))
        self.assertEqual(most_num([(5, 8), (3, 4), (1, 2)]), (3, 4))
        self.assertEqual(least_num([(-1, 2), (-2, 1), (0, 1)]), (-2, 1))


class Figures(unittest.TestCase):
    def test_figures_of(self):
        self.assertEqual(figures_of((0, 1)), 0)
        self.assertEqual(figures_of((7, 1)), 0)
        self.assertEqual(figures_of((1, 2)), 1)
        self.assertEqual(figures_of((-3, 16)), 4)
        self.assertEqual(figures_of((GREAT, FINE)), 150)

    def test_cut_of(self):
        self.assertEqual(cut_of((7, 8), 3), (7, 8))
        self.assertEqual(cut_of((7, 8), 4), (7, 8))
        self.assertEqual(cut_of((7, 8), 2), (3, 4))
        self.assertEqual(cut_of((7, 8), 1), (1, 2))
        self.assertEqual(cut_of((7, 8), 0), (0, 1))
        self.assertEqual(cut_of((5, 8), 2), (1, 2))
        self.assertEqual(cut_of((-7, 8), 2), (-1, 1))
        self.assertEqual(cut_of((-5, 8), 2), (-3, 4))
        self.assertEqual(cut_of((-1, 8), 0), (-1, 1))
        self.assertEqual(cut_of((-9, 1), 0), (-9, 1))
        self.assertEqual(cut_of((0, 1), 5), (0, 1))

    def test_cut_is_the_greatest_not_above(self):
        for one in NUMBERS:
            for figures in (0, 1, 2, 3, 4, 5, 30, 149, 150, 151):
                cut = cut_of(one, figures)
                self.assertTrue(is_num(cut))
                self.assertLessEqual(figures_of(cut), figures)
                self.assertLessEqual(exact(cut), exact(one))
                self.assertLess(exact(one), exact(cut) + Fraction(1, 2 ** figures))


class WhatIsANumber(unittest.TestCase):
    def test_numbers(self):
        for one in NUMBERS:
            self.assertIs(is_num(one), True)

    def test_others(self):
        others = [
            (2, 2), (0, 2), (4, 8), (-6, 4), (0, 16), (GREAT * 2, FINE), (1, 3), (1, 6), (3, 12), (1, 0), (0, 0),
            (1, -1), (1, -2), (0, -1), (True, 1), (False, 1), (1, True), (True, True), (1, False), (3, False),
            [1, 1], [1, 2], (), (1,), (1, 2, 4), (1, 1, 1), "1", "1/2", "", None, True, False, 0, 1, ("1", 1),
            (1, "1"), (None, 1), (1, None), ((1, 1), 1), (1, (1, 1)), ([1], 1), ((1, 1), (1, 1)), [(1, 1)], [[]],
        ]
        for thing in others:
            with self.subTest(thing):
                self.assertIs(is_num(thing), False)


class Texts(unittest.TestCase):
    def test_texts(self):
        for one, text in [
            ((3, 1), "3"), ((-1, 2), "-1/2"), ((0, 1), "0"), ((-7, 1), "-7"), ((10, 1), "10"), ((99, 16), "99/16"),
            ((1, 1024), "1/1024"), ((-105, 64), "-105/64"),
        ]:
            with self.subTest(text):
                self.assertEqual(num_text(one), text)
                self.assertEqual(num_in(text), one)

    def test_there_and_back(self):
        for number in range(-40, 41):
            for parts in (1, 2, 4, 8, 16, 64):
                one = num_of(number, parts)
                self.assertEqual(num_in(num_text(one)), one)

    def test_as_many_signs_as_let(self):
        self.assertEqual(num_in("9" * 20), (10 ** 20 - 1, 1))
        self.assertEqual(num_in("-1/" + str(2 ** 56)), (-1, 2 ** 56))

    def test_great_numbers_have_texts(self):
        for one in NUMBERS:
            text = str(one[0]) if one[1] == 1 else f"{one[0]}/{one[1]}"
            self.assertEqual(num_text(one), text)
            self.assertEqual(num_in(text), one)

    def test_numbers_too_great_for_pythons_own_texts(self):
        self.assertEqual(num_text((10 ** 5000, 1)), "1" + "0" * 5000)
        self.assertEqual(num_text((-10 ** 5000 - 7, 1)), "-1" + "0" * 4999 + "7")
        one = (-(3 ** 10000), 2 ** 15000)
        self.assertEqual(num_in(num_text(one)), one)

    def test_refused(self):
        for text in [
            "", " ", "-", "/", "1 ", " 1", "1 /2", "1/ 2", "- 1", "--1", "+1", "-+1", "+-1", "1-", "01", "00", "-01",
            "-0", "0/1", "0/2", "-0/2", "1/1", "-3/1", "2/4", "6/4", "-2/2", "1/3", "1/6", "1/0", "3/-2", "1/-2", "/2",
            "1/", "1//2", "1/2/4", "1/02", "01/2", "1/+2", "1.5", "1e3", "1_0", "0x1", "a", "1a", "a/2", "1/b", "one",
            "1\n", "\n1", "1\t", "(1, 2)", "\u0661", "\u00b2", "1/\u0662", "\uff11", "1,0", "9" * 19 + "x",
        ]:
            with self.subTest(text):
                with self.assertRaises(BadText) as caught:
                    num_in(text)
                self.assertEqual(caught.exception.text, text)
                self.assertIsInstance(caught.exception, ValueError)

    def test_all_short_texts(self):
        signs = "012-/ +8"
        texts = [""]
        for _ in range(4):
            texts += [text + sign for text in texts for sign in signs]
        written = {num_text(num_of(n, p)) for n in range(-900, 9000) for p in (1, 2, 4, 8, 16, 32, 64, 128, 256, 512)}
        for text in set(texts):
            try:
                self.assertEqual(num_text(num_in(text)), text)
                self.assertIn(text, written)
            except BadText:
                self.assertNotIn(text, written)


if __name__ == "__main__":
    unittest.main()
