"""A desk: rows of text done to a mill. [22]"""

import random
import unittest

from brookworks.codes import code_of
from brookworks.desk import answers
from brookworks.errors import BadRow, BadWord, Clash, Loose, Round, TooFar
from brookworks.mill import Mill
from brookworks.noise import noise_of
from brookworks.nums import num_in, num_text
from brookworks.programs import is_program
from brookworks.texts import program_in, program_text, term_in, term_text
from brookworks.ways import least_way
from tests.helpers import BIG, BIG_TEXT, halves, program_of, some_programs, whole
from tests.mills import Shadow, some_deed
from tests.oracle import REFUSED, some_good_programs

ACC = "spring x 1\nbrook a sum x late 0 a\nout a"


def text_of(ahead, *rows):
    return "\n".join([ahead, "mill", *rows])


def answer_awaited(mill, row):
    """By [22], of a mill of the asker's own."""
    word, *rest = row.split(" ")
    try:
        if word == "feed":
            mill.feed(rest[0], [num_in(number) for number in rest[1:]])
        elif word == "go":
            told = [f"{name}:{num_text(number)}" for pairs in mill.go(beats=int(rest[0])) for name, number in pairs]
            return " ".join(told) or "-"
        elif word in ("put", "keep"):
            mill.put(rest[0], term_in(" ".join(rest[1:])), keep=word == "keep")
        elif word in ("drop", "show", "hide"):
            getattr(mill, word)(rest[0])
        elif word == "undo":
            return "done" if mill.undo() else "nothing"
        elif word in ("beat", "round", "deeds"):
            return str({"beat": mill.beat, "round": mill.round_now, "deeds": mill.deeds}[word]())
        elif word == "periods":
            return " ".join(f"{name}:{period}" for name, period in mill.periods())
        elif word == "left":
            return " ".join(num_text(number) for number in mill.left(rest[0])) or "-"
        elif word == "boxes":
            return str(code_of(mill.graph())[0])
        elif word == "late":
            told = least_way(mill.graph(), rest[0], rest[1])
            return "-" if told is None else str(told[0])
        elif word == "noise":
            told = noise_of(mill.graph(), 16, figures=int(rest[0]))
            return " ".join(f"{name}:{num_text(spans[-1][0])}:{num_text(spans[-1][1])}" for name, spans in told.items())
        return "done"
    except (ValueError, KeyError, LookupError, RuntimeError, OverflowError) as refused:
        return "refused " + type(refused).__name__


class Answers(unittest.TestCase):
    def told(self, awaited, ahead=ACC):
        """awaited: pairs of a row and its answer."""
        self.assertEqual(answers(text_of(ahead, *[row for row, _ in awaited])), [answer for _, answer in awaited])

    def test_deeds(self):
        self.told([
            ("feed x 1 -1/2 3", "done"), ("left x", "1 -1/2 3"), ("go 2", "a:1 a:1/2"), ("left x", "3"), ("beat", "2"), ("deeds", "2"),
            ("keep a sum x late 50 a", "done"), ("go 1", "a:7/2"), ("left x", "-"), ("undo", "done"), ("undo", "done"),
            ("put a sum x late 50 a", "done"), ("go 1", "a:53"), ("put b late 1/2 x", "done"), ("periods", "a:1 b:1"), ("round", "1"),
            ("show b", "done"), ("hide a", "done"), ("feed x 4", "done"), ("go 1", "b:1/2"), ("drop a", "done"), ("periods", "b:1"),
        ])
        self.told([("undo", "nothing"), ("deeds", "0"), ("beat", "0"), ("round", "1"), ("left x", "-")])

    def test_told_of_several_beats(self):
        rows = [("feed x 1 2 3 4", "done"), ("feed y 1 1", "done"),
                ("go 4", "acc:1 thick:0 both:0 acc:3 thick:0 acc:6 thick:5 both:5 acc:10 thick:5"), ("round", "2"),
                ("periods", "acc:1 thin:2 both:2 thick:1")]
        self.told(rows, BIG_TEXT)
        self.told([("feed x 1 2", "done"), ("go 1", "b:1"), ("go 1", "-"), ("go 1", "refused Dry")], "spring x 1\nbrook b half x\nout b")

    def test_asks(self):
        self.told([("boxes", "2"), ("late x a", "0"), ("late y a", "-"), ("late a a", "-"), ("late x b", "refused NoOut"),
                   ("noise 8", "a:0:0"), ("noise 5", "a:-1/4:0"), ("noise 30", "a:0:0"), ("noise 0", "a:-63/4:0")])
        # The last number below 16 beats: of period 4 the fourth.
        self.told([("noise 5", "a:-1/16:0 b:-1/64:0")], "spring x 1\nbrook a sum half half x late 0 a\nbrook b x\nout a\nout b")
        self.told([("noise 5", "refused Unsure"), ("noise 6", "a:0:0")], "spring x 1\nbrook a pick x 1 2\nout a")

    def test_late(self):
        ahead = "spring x 2\nspring y 16\nbrook a late 0 half half half late 1 x\nbrook b less a late 2 y\nout a\nout b"
        self.told([("late x a", "18"), ("late y a", "-"), ("late y b", "16"), ("late x b", "18"), ("late y x", "refused NoOut")], ahead)

    def test_refused_ones(self):
        self.told([
            ("feed a 1", "refused NoSpring"), ("feed y 1000", "refused NoSpring"), ("feed x 1000", "refused BadNumbers"),
            ("feed x 1/128", "refused BadNumbers"), ("feed x" + " 1" * 65, "refused BadNumbers"), ("feed x" + " 1" * 64, "done"),
            ("go 64", " ".join(f"a:{at}" for at in range(1, 65))), ("go 1", "refused Dry"), ("left a", "refused NoSpring"),
            ("put x a", "refused BadName"), ("put a q", "refused NoName"), ("put b a", "done"), ("drop a", "refused Used"),
            ("drop q", "refused NoBrook"), ("drop x", "refused NoBrook"), ("hide a", "refused LastOut"), ("hide b", "refused NotOut"),
            ("show a", "refused IsOut"), ("show q", "refused NoBrook"), ("put b b", "refused Round"), ("put b sum x half x", "refused Clash"),
            ("put b 1", "refused Loose"), ("put b twice x", "refused TooFar"), ("keep b twice x", "refused TooFar"),
            ("put c half x", "done"), ("feed x 1 2", "done"), ("go 1", "a:65"), ("put d x", "refused NotNow"), ("drop c", "refused NotNow"),
            ("show b", "done"), ("show c", "done"), ("beat", "65"), ("deeds", "8"),
        ])
        rows = [(f"put {name} x", "done") for name in "bcdefgh"] + [("put i x", "refused TooBig")]
        rows += [("show b", "done"), ("show c", "done"), ("show d", "refused TooBig"), ("drop i", "refused NoBrook")]
        self.told(rows)
        self.told([("drop a", "refused LastOut")])

    def test_rows_without_any_sign(self):
        self.assertEqual(answers(text_of(ACC, "", "feed x 1", "", "", "go 1", "")), ["done", "a:1"])
        self.assertEqual(answers(text_of(ACC)), [])
        self.assertEqual(answers(text_of(ACC, "")), [])
        self.assertEqual(answers(text_of(ACC, "", "", "beat")), ["0"])

    def test_a_brook_called_mill(self):
        self.assertEqual(answers("spring x 1\nbrook mill x\nout mill\nmill\nfeed x 1\ngo 1\nput mill late 0 x"), ["done", "mill:1", "done"])

    def test_against_mills(self):
        dice = random.Random(81)
        done = 0
        for program in [BIG, *some_good_programs(801, 50, 4)]:
            shadow = Shadow(program)
            mill = Mill(program)
            rows = [f"feed {name} " + " ".join(str(at) for at in range(1, 40)) for name, _ in program[0]]
            while len(rows) < 35:
                deed = some_deed(dice, shadow, 0)
                row = {
                    "feed": lambda name, numbers: f"feed {name} " + " ".join(num_text(number) for number in numbers),
                    "go": lambda beats: f"go {beats}",
                    "put": lambda name, term, keep: f"{'keep' if keep else 'put'} {name} {term_text(term)}",
                    "undo": lambda: "undo",
                }.get(deed[0], lambda name: f"{deed[0]} {name}")(*deed[1:])
                if not row.endswith(" ") and "sum" not in row.split(" ")[1:2] and len(row) <= 300:
                    rows.append(row)
                outs = [*program[2], "zz"]
                springs = [name for name, _ in program[0]] + ["zz"]
                rows.append(dice.choice([
                    "beat", "round", "deeds", "periods", f"left {dice.choice(springs)}", "boxes", f"noise {dice.randint(0, 9)}",
                    f"late {dice.choice(springs)} {dice.choice(outs)}", ""]))
            told = answers(text_of(program_text(program), *rows))
            self.assertEqual(told, [answer_awaited(mill, row) for row in rows if row])
            done += len(told)
        self.assertGreater(done, 1000)

    def test_refused_as_a_mill_is(self):
        kinds = set()
        for program in some_programs(802, 300):
            if not is_program(program):
                continue
            text = text_of(program_text(program), "beat")
            try:
                Mill(program)
            except REFUSED as refused:
                kinds.add(type(refused))
                with self.assertRaises(type(refused)) as caught:
                    answers(text)
                self.assertEqual(vars(caught.exception), vars(refused))
                # Behind rows that aren't so written.
                self.assertRaises(BadRow, lambda: answers(text + "\nbeats"))
            else:
                self.assertEqual(answers(text), ["0"])
        self.assertEqual(kinds, {Round, Clash, Loose, TooFar})

    def test_asked_twice(self):
        text = text_of(ACC, "feed x 1 2", "go 1")
        told = answers(text)
        again = answers(text=text)
        self.assertEqual(told, again)
        told.clear()
        self.assertEqual(answers(text), again)


class BadRows(unittest.TestCase):
    def bad(self, number, text):
        with self.assertRaises(BadRow) as caught:
            answers(text)
        self.assertIs(type(caught.exception), BadRow)
        self.assertEqual(caught.exception.row, number, text)

    def test_rows_that_are_not_so_written(self):
        for row in [
            "beats", "Beat", " ", "beat ", " beat", "beat 1", "round 1", "deeds x", "periods a", "boxes 1", "undo 1", "undo ", "go", "go ",
            "go 0", "go 65", "go 1/2", "go -1", "go 01", "go +1", "go 1 1", "go x", "go  1", "go 1 ", "go 1.0", "noise", "noise -1", "noise 31",
            "noise 1/2", "noise 00", "noise 1 2", "noise x", "left", "left x y", "left X", "left x1", "left sum", "left toolong", "left  x",
            "late x", "late x a b", "late", "late x sum", "late 1 a", "late x  a", "drop", "drop a b", "drop out", "drop A", "drop ", "show", "show 1",
            "hide", "hide a a", "feed", "feed x", "feed x ", "feed x y", "feed x 1 ", "feed x  1", "feed x 2/4", "feed x 01", "feed x +1",
            "feed x 1/3", "feed x -0", "feed x 1 x", "feed 1 1", "feed sum 1", "feed x 1/1", "feed x 1.5", "put", "put a", "put a ", "put a sum x",
            "put a x x", "put a sum x  x", "put sum x", "put 1 x", "put a 100", "put a late 1/32 x", "put a most 6 0 x", "put a most 02 0 x",
            "put a X", "put a toolong", "put toolong x", "keep a", "keep a sum x", "keep beat x", "keep", "mill", "mill 1", "spring y 1", "brook b x",
            "out a", "step", "run 1", "feed:x 1", "do", "told", "twin", "put a " + "half " * 8 + "x",
            "put a over 5 0 over 5 0 over 5 0 over 2 0 x", "feed\tx 1",
        ]:
            self.bad(4, text_of(ACC, row))
            self.bad(6, text_of(ACC, "beat", "", row, "beats"))

    def test_bounds_that_just_do(self):
        told = answers(text_of(ACC, "noise 0", "noise 30", "feed x 999 -999 1/64", "put a late 99 late -99 late 1/16 x", "feed x 1234567"))
        self.assertEqual(told[2:], ["done", "done", "refused BadNumbers"])
        self.assertEqual(answers(text_of(ACC, "go 64", "go 1")), ["refused Dry"] * 2)
        self.assertEqual(answers(text_of(ACC, "put a " + " ".join(["late 0"] * 7) + " x")), ["done"])
        self.assertRaises(BadWord, lambda: term_in(" ".join(["late 0"] * 8) + " x"))
        self.assertEqual(len(halves(7, ("name", "x"))), 2)

    def test_rows_ahead(self):
        for number, rows in [
            (0, ["", "spring x 1", "brook a x", "out a", "mill"]), (1, ["spring x 1", "", "brook a x", "out a", "mill"]),
            (3, ["spring x 1", "brook a x", "out a", "", "mill"]), (1, ["spring x 1", "brook a q q", "out a", "mill", "beats"]),
            (0, ["spring x 3", "brook a x", "out a", "mill"]), (1, ["spring x 1", "beat", "mill"]),
            (2, ["spring x 1", "brook a x", "out b", "mill"]), (2, ["spring x 1", "brook a x", "brook a x", "mill"]),
            (0, ["brook a x", "mill"]), (0, ["out a", "mill"]), (0, ["Mill", "mill"]), (0, ["mill ", "mill"]), (0, [" mill", "mill"]),
            (1, ["spring x 1", "spring x 1", "mill"]), (3, ["spring x 1", "brook a x", "out a", "spring y 1", "mill"]),
            (3, ["spring x 1", "brook a x", "out a", "out a", "mill"]), (3, ["spring x 1", "brook a x", "out a", "undo", "mill"]),
        ]:
            self.bad(number, "\n".join(rows))

    def test_rows_ahead_that_are_no_program(self):
        self.bad(0, "mill")
        self.bad(0, "mill\nbeats")
        self.bad(1, "spring x 1\nmill\nbeat")
        self.bad(2, "spring x 1\nbrook a x\nmill\nbeats")
        self.bad(3, "spring x 1\nbrook a q\nout a\nmill\nbeats")
        many = "\n".join(["spring x 1", *[f"brook {name} " + "sum x " * 6 + "x" for name in "abcde"], "out a", "mill", "beats"])
        self.bad(7, many)
        windows = "\n".join(["spring x 1", *[f"brook {name} over 5 0 x" for name in "abcd"], "out a", "mill", "beat"])
        self.bad(6, windows)

    def test_no_row_mill(self):
        self.bad(3, ACC)
        self.bad(9, BIG_TEXT)
        self.bad(2, "spring x 1\nbrook a x")
        self.bad(3, "spring x 1\nbrook a q\nout a")
        self.bad(0, "")
        self.bad(3, ACC + "\n")
        self.bad(3, ACC + "\nbeat")
        self.bad(3, ACC + "\nmill ")
        self.bad(3, ACC + "\nMILL\nbeats")
        self.bad(1, "spring x 1\nbeat\nbrook a")

    def test_the_least_number_goes(self):
        self.bad(2, "spring x 1\nbrook a x\nout q\nmill\nbeats")
        self.bad(4, text_of(ACC, "beats", "go 0"))
        self.bad(5, text_of(ACC, "", "go 0", "beats"))
        # Rows are looked at ahead of being done, and ahead of what look refuses.
        self.bad(5, text_of("spring x 1\nbrook a sum x half x\nout a", "beat", "beats"))
        self.assertRaises(Clash, lambda: answers(text_of("spring x 1\nbrook a sum x half x\nout a", "beat")))
        self.assertRaises(Round, lambda: answers(text_of("spring x 1\nbrook a a\nout a")))

    def test_several_rows_mill(self):
        self.bad(4, text_of(ACC, "mill"))
        self.bad(5, text_of(ACC, "beat", "mill", "beat"))
        self.bad(3, ACC + "\nbrook b x\nmill")
        self.bad(5, text_of(ACC, "beat", "out a"))

    def test_programs_read_as_program_in(self):
        for program in some_programs(803, 80):
            text = program_text(program)
            try:
                program_in(text)
            except BadRow as bad:
                self.bad(bad.row, text + "\nmill\nbeat")
                self.bad(bad.row, text)
            else:
                self.bad(len(text.split("\n")), text)
        self.assertEqual(program_of("spring x 1", "brook a x", "out a")[2], ("a",))
        self.assertEqual(whole(1), [(1, 1)])


if __name__ == "__main__":
    unittest.main()
