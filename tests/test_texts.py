"""The texts of TERMs and PROGRAMs, there and back. [3], [6]"""

import random
import unittest

from brookworks.errors import BadRow, BadWord
from brookworks.limits import KEYWORDS
from brookworks.programs import is_program, with_brook, without
from brookworks.terms import is_term
from brookworks.texts import program_in, program_text, term_in, term_text
from tests.helpers import (
    BIG, BIG_TEXT, FORMS, FORM_TEXTS, X, ZERO, halves, some_programs, some_term, wide_term,
)


class Terms(unittest.TestCase):
    def bad_word(self, text, at):
        with self.subTest(text):
            with self.assertRaises(BadWord) as caught:
                term_in(text)
            self.assertEqual(caught.exception.at, at)
            self.assertIsInstance(caught.exception, ValueError)

    def test_each_form_there_and_back(self):
        for term, text in zip(FORMS, FORM_TEXTS):
            with self.subTest(text):
                self.assertEqual(term_text(term), text)
                self.assertEqual(term_in(text), term)
        self.assertEqual(term_text(term=X), "x")
        self.assertEqual(term_in(text="x"), X)

    def test_order_of_what_is_within(self):
        text = "pick late -1/2 sum x y by 99/16 half fixes least 5 0 name"
        term = (
            "pick",
            ("late", (-1, 2), ("sum", ("name", "x"), ("name", "y"))),
            ("by", (99, 16), ("half", ("name", "fixes"))),
            ("least", 5, (0, 1), ("name", "name")),
        )
        self.assertEqual(term_in(text), term)
        self.assertEqual(term_text(term), text)

    def test_some_there_and_back(self):
        dice = random.Random(6)
        for _ in range(300):
            term = some_term(dice, ["a", "bb", "ccc"], dice.randint(1, 5))
            text = term_text(term)
            if is_term(term):
                self.assertEqual(term_in(text), term)
            else:
                self.bad_word(text, len(text.split(" ")))

    def test_all_beginnings_end_too_early(self):
        for text in FORM_TEXTS + ["pick late 0 x by 1/2 half y over 2 0 1"]:
            words = text.split(" ")
            for many in range(1, len(words)):
                self.bad_word(" ".join(words[:many]), many)
            for more in ("x", "1", "sum", "", "?"):
                self.bad_word(text + " " + more, len(words))

    def test_empty_words(self):
        self.bad_word("", 0)
        self.bad_word(" ", 0)
        self.bad_word(" x", 0)
        self.bad_word("x ", 1)
        self.bad_word("sum  x y", 1)
        self.bad_word("sum x  y", 2)
        self.bad_word("by 1  x", 2)
        self.bad_word("sum x ", 2)

    def test_words_that_begin_no_term(self):
        for word in ["fixed", "spring", "brook", "out", "beat", "X", "sums2", "abcdefg", "a_b", "-", "x,", "x\n", "(x)", "\u00e9"]:
            self.bad_word(word, 0)
            self.bad_word("half " + word, 1)
            self.bad_word("sum x " + word, 2)
            self.bad_word("pick x half y " + word + " y", 4)

    def test_keywords_are_no_names(self):
        for word in KEYWORDS:
            self.bad_word("sum x " + word, 3 if word in KEYWORDS[1:11] else 2)

    def test_numbers(self):
        for word in ["99", "-99", "1583/16", "-1583/16", "1/16", "0", "-1/2"]:
            self.assertEqual(term_text(term_in(word)), word)
            self.assertEqual(term_text(term_in("by " + word + " x")), "by " + word + " x")
        for word in [
            "100", "-100", "1585/16", "-1585/16", "1/32", "01", "-0", "1/1", "2/4", "1/3", "/2", "1/", "1//2", "+1", "1.5",
            "--1", "9" * 500,
        ]:
            self.bad_word(word, 0)
            for head in ("by", "late", "most 2", "least 5", "over 3"):
                self.bad_word(head + " " + word + " x", len(head.split(" ")))

    def test_numbers_are_awaited(self):
        for word in ("x", "sum", "late", "fixed", "1x"):
            self.bad_word("by " + word + " x", 1)
            self.bad_word("late " + word + " x", 1)
            self.bad_word("most 2 " + word + " x", 2)

    def test_windows(self):
        for word in ("most", "least", "over"):
            for k in range(2, 6):
                self.assertEqual(term_in(f"{word} {k} 0 x"), (word, k, ZERO, X))
            for k in ("1", "6", "0", "-2", "02", "2/1", "5/2", "1/2", "+2", "x", "", "2.0", "10", "22", "9" * 400):
                self.bad_word(f"{word} {k} 0 x", 1)

    def test_the_first_word_counts(self):
        self.bad_word("sum ? ?", 1)
        self.bad_word("sum x ? ?", 2)
        self.bad_word("x y ?", 1)
        self.bad_word("by x 100", 1)
        self.bad_word("half " * 20 + "x ?", 21)
        self.bad_word("half " * 20 + "?", 20)

    def test_bounds_are_seen_at_the_end(self):
        self.assertEqual(term_in("half " * 7 + "x"), halves(7, X))
        self.bad_word("half " * 8 + "x", 9)
        self.bad_word("half " * 119 + "x", 120)
        self.bad_word("half " * 119 + "half", 120)
        self.assertEqual(term_in(term_text(wide_term(60))), wide_term(60))
        self.bad_word(term_text(wide_term(61)), 61)
        windows = "sum over 5 0 x sum over 5 0 x sum over 4 0 x "
        self.assertTrue(is_term(term_in(windows + "over 2 0 x")))
        self.bad_word(windows + "over 3 0 x", 19)

    def test_terms_beyond_the_bounds_have_texts(self):
        self.assertEqual(term_text(halves(2000, X)), "half " * 2000 + "x")


class Programs(unittest.TestCase):
    def bad_row(self, text, row):
        with self.subTest(text):
            with self.assertRaises(BadRow) as caught:
                program_in(text)
            self.assertEqual(caught.exception.row, row)
            self.assertIsInstance(caught.exception, ValueError)

    def test_there_and_back(self):
        self.assertEqual(program_text(BIG), BIG_TEXT)
        self.assertEqual(program_in(BIG_TEXT), BIG)
        self.assertEqual(program_text(program=BIG), BIG_TEXT)
        self.assertEqual(program_in(text=BIG_TEXT), BIG)

    def test_some_there_and_back(self):
        for program in some_programs(66, 300):
            text = program_text(program)
            if is_program(program):
                self.assertEqual(program_in(text), program)
                self.assertEqual(program_text(program_in(text)), text)
            else:
                self.assertRaises(BadRow, program_in, text)

    def test_told_programs_have_texts(self):
        self.assertEqual(program_text(without(BIG, "thick")), BIG_TEXT.replace(
            "brook thick twice most 3 0 both\n", "").replace("out thick\n", ""))
        self.assertEqual(program_text(with_brook(BIG, "thin", X)), BIG_TEXT.replace("half acc", "x"))

    def test_empty(self):
        self.bad_row("", 0)
        self.bad_row("\n", 0)
        self.bad_row("\n" + BIG_TEXT, 0)
        self.bad_row(BIG_TEXT + "\n", 9)
        self.bad_row(BIG_TEXT.replace("\nout acc", "\n\nout acc"), 6)

    def test_rows_that_are_not_so_written(self):
        for row in [
            "", " ", "spring", "spring x", "spring x 3", "spring x 0", "spring x 32", "spring x 01", "spring x 1/1",
            "spring x -1", "spring x y", "spring x 1 1", "spring x  1", "spring  x 1", " spring x 1", "spring x 1 ",
            "spring X 1", "spring abcdefg 1", "spring sum 1", "spring beat 1", "Spring x 1", "x 1", "beat", "mill",
            "spring x True", "spring x 1\r", "spring\tx 1", "? x 1",
        ]:
            self.bad_row(row + "\nbrook a x\nout a", 0)
        for row in [
            "brook", "brook a", "brook a ", "brook a sum x", "brook a x x", "brook a  x", "brook a x ", "brook A x",
            "brook sum x", "brook abcdefg x", "brook a 100", "brook a most 6 0 x", "brook a most 1 0 x", "brook a fixed 1",
            "brook a sum  x x", "brook a 2/4", "brook a ?", "brooks a x", "brook a " + "half " * 8 + "x",
            "brook a " + term_text(wide_term(61)),
        ]:
            self.bad_row("spring x 1\n" + row + "\nout a", 1)
        for row in ["out", "out ", "out a a", "out  a", "out a ", " out a", "out A", "Out a"]:
            self.bad_row("spring x 1\nbrook a x\n" + row, 2)

    def test_rows_that_cannot_stand_there(self):
        self.bad_row("brook a 1\nspring x 1\nout a", 0)
        self.bad_row("out a\nspring x 1\nbrook a x", 0)
        self.bad_row("spring x 1\nout a\nbrook a x", 1)
        self.bad_row("spring x 1\nbrook a x\nspring y 1\nout a", 2)
        self.bad_row("spring x 1\nbrook a x\nout a\nbrook b x", 3)
        self.bad_row("spring x 1\nbrook a x\nout a\nspring y 1", 3)

    def test_no_more_rows_than_let(self):
        springs = [f"spring {name} 1" for name in "xyzw"]
        brooks = [f"brook {name} x" for name in "abcdefghi"]
        outs = [f"out {name}" for name in "abcd"]
        text = "\n".join(springs[:3] + brooks[:8] + outs[:3])
        self.assertEqual(program_text(program_in(text)), text)
        self.bad_row("\n".join(springs + brooks[:8] + outs[:3]), 3)
        self.bad_row("\n".join(springs[:3] + brooks + outs[:3]), 11)
        self.bad_row("\n".join(springs[:3] + brooks[:8] + outs), 14)

    def test_names_twice(self):
        self.bad_row("spring x 1\nspring x 2\nbrook a x\nout a", 1)
        self.bad_row("spring x 1\nbrook x x\nout x", 1)
        self.bad_row("spring x 1\nbrook a x\nbrook a x\nout a", 2)
        self.bad_row("spring x 1\nbrook a x\nout a\nout a", 3)

    def test_outs_are_brooks(self):
        self.bad_row("spring x 1\nbrook a x\nout x", 2)
        self.bad_row("spring x 1\nbrook a x\nout b", 2)
        self.bad_row("spring x 1\nbrook a x\nout a\nout b", 3)

    def test_more_rows_are_awaited(self):
        self.bad_row("spring x 1", 1)
        self.bad_row("spring x 1\nspring y 1", 2)
        self.bad_row("spring x 1\nbrook a x", 2)
        self.bad_row("spring x 1\nbrook a x\nbrook b x", 3)

    def test_no_program(self):
        self.bad_row("spring x 1\nbrook a q\nout a", 3)
        self.bad_row("spring x 1\nbrook a x\nbrook b late 0 q\nout a", 4)
        self.assertTrue(program_in("spring x 1\nbrook a b\nbrook b x\nout a"))
        half = term_text(wide_term(30))
        self.assertTrue(program_in(f"spring x 1\nbrook a {half}\nbrook b {half}\nout a"))
        self.bad_row(f"spring x 1\nbrook a {half}\nbrook b half {half}\nout a", 4)
        windows = "sum over 5 0 x over 5 0 x"
        self.assertTrue(program_in(f"spring x 1\nbrook a {windows}\nbrook b sum over 4 0 x most 2 0 x\nout a"))
        self.bad_row(f"spring x 1\nbrook a {windows}\nbrook b sum over 4 0 x most 3 0 x\nout a", 4)

    def test_the_first_row_counts(self):
        self.bad_row("spring x 1\nbrook a q\nbrook b ?\nout ?", 2)
        self.bad_row("spring x 1\nbrook a q\nout q", 2)

    def test_twenty_rows(self):
        self.bad_row("\n".join(["spring x 1", "brook a x"] + ["out a"] * 18), 3)


if __name__ == "__main__":
    unittest.main()
