"""What devices do, by [16] word by word and with Python's own fractions."""

import math
from fractions import Fraction

from tests import graphing
from tests.oracle import as_number, worth


def cut(number, figures):
    """Of a fraction the greatest one of no more figures that isn't above it."""
    return Fraction(math.floor(number * 2 ** figures), 2 ** figures)


def fits(number, wide, figures):
    units = number * 2 ** figures
    return units.denominator == 1 and -2 ** (wide - 1) <= units <= 2 ** (wide - 1) - 1


def first_small(code, wide, figures):
    """The first kept box whose N doesn't fit; None of none."""
    for box, _, number in code[1]:
        if number is not None and not fits(cut(worth(number), figures), wide, figures):
            return box
    return None


class Boxes:
    """A device that's done beat by beat till something doesn't fit."""

    def __init__(self, code, given, wide, figures):
        self.rounds = code[2]
        self.wide, self.figures = wide, figures
        self.rest = {name: list(numbers) for name, numbers in given.items()}
        self.holds = {box: cut(worth(number), figures) for box, _, number in code[1] if number is not None}
        self.done = 0

    def step(self):
        """The list of pairs (NAME, number) that are given; else the number of the row that doesn't fit."""
        given = []
        for at, row in enumerate(self.rounds[self.done % len(self.rounds)]):
            word = row[0]
            read = [self.holds[box] for box in graphing.read_by(row)]
            if word == "give":
                given.append((row[1], as_number(read[0])))
                continue
            if word == "take":
                number = self.rest[row[2]].pop(0)
                if row[1] is None:
                    continue
                come = cut(worth(number), self.figures)
            elif word == "fix":
                come = cut(worth(row[2]), self.figures)
            elif word == "by":
                come = cut(worth(row[2]) * read[0], self.figures)
            elif word == "pick":
                come = read[1] if read[0] > 0 else read[2]
            elif word == "less":
                come = read[0] - read[1]
            else:
                come = {"sum": sum, "most": max, "least": min, "copy": max}[word](read)
            if not fits(come, self.wide, self.figures):
                return at
            self.holds[row[1]] = come
        self.done += 1
        return sorted(given)
