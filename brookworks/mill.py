"""A mill: a program that's worked on while it runs."""

from brookworks.changes import (
    changed_streams, check_now, program_hiding, program_less, program_showing, program_with,
)
from brookworks.deeds import check_deeds
from brookworks.errors import BadNumbers, NoSpring
from brookworks.givens import is_told
from brookworks.graphs import graph_of
from brookworks.limits import MOST_AT_ONCE
from brookworks.looks import look, round_of
from brookworks.programs import spring_names
from brookworks.streams import Streams


def are_numbers(thing):
    """Whether a thing is a list of numbers that can be fed at once."""
    return type(thing) is list and 1 <= len(thing) <= MOST_AT_ONCE and all([is_told(number) for number in thing])


class Mill:
    """A program, beat 0 next at first; refused as look is."""

    def __init__(self, program):
        # Neither these streams nor this list is ever changed: a deed puts others in their place.
        self.running = Streams(program)
        self.lines = []
        # Of each deed that can be undone what stood ahead of it.
        self.stack = []
        self.under_way = 0
        self.entries = []

    def __eq__(self, other):
        return isinstance(other, Mill) and self.running == other.running and self.lines == other.lines

    def stand(self, running, lines):
        """A deed is done: this stands behind it."""
        self.stack.append((self.running, self.lines))
        self.running = running
        self.lines = lines

    def check_spring(self, name):
        if type(name) is not str or name not in spring_names(self.running.plan):
            raise NoSpring(name)

    def feed(self, name, numbers):
        self.check_spring(name)
        if not are_numbers(numbers):
            raise BadNumbers(numbers)
        running = self.running.like()
        running.feed(name, numbers)
        self.stand(running, self.lines)

    def go(self, *, beats=1):
        running = self.running.like()
        rows = running.run(beats)
        lines = list(self.lines)
        for at, row in enumerate(rows, start=self.running.next_beat):
            lines.extend([(at, name, number) for name, number in row])
        self.stand(running, lines)
        return rows

    def put(self, name, term, *, keep=False):
        program = program_with(self.running.plan, name, term)
        running = changed_streams(self.running, program, name, keep)
        check_now(self.running.plan, program, self.running.next_beat)
        self.stand(running, self.lines)

    def drop(self, name):
        program = program_less(self.running.plan, name)
        running = changed_streams(self.running, program, name, False)
        check_now(self.running.plan, program, self.running.next_beat)
        self.stand(running, self.lines)

    def show(self, name):
        program = program_showing(self.running.plan, name)
        self.stand(changed_streams(self.running, program, None, False), self.lines)

    def hide(self, name):
        program = program_hiding(self.running.plan, name)
        self.stand(changed_streams(self.running, program, None, False), self.lines)

    def undo(self):
        if not self.stack:
            return False
        self.running, self.lines = self.stack.pop()
        return True

    def done(self, deed):
        """What a deed of a row tells."""
        word = deed[0]
        if word == "feed":
            return self.feed(deed[1], deed[2])
        if word == "go":
            return self.go(beats=deed[1])
        if word == "put":
            return self.put(deed[1], deed[2], keep=deed[3])
        if word == "drop":
            return self.drop(deed[1])
        if word == "show":
            return self.show(deed[1])
        if word == "hide":
            return self.hide(deed[1])
        if word == "undo":
            return self.undo()
        return self.row_done(deed[1], deed[2])

    def row_done(self, deeds, whole):
        """What a row of deeds tells; refused as the first of them that is."""
        running, lines, stack = self.running, self.lines, list(self.stack)
        back = True if whole else None
        told = None
        self.under_way += 1
        self.entries.append(("in", self.under_way))
        try:
            told = [self.done(deed) for deed in deeds]
        finally:
            if told is None and back is not None:
                self.running, self.lines, self.stack = running, lines, stack
            self.entries.append(("out", self.under_way))
            self.under_way -= 1
        return told

    def do(self, deeds, *, whole=True):
        check_deeds(deeds)
        return self.row_done(deeds, whole)

    def program(self):
        return self.running.plan

    def beat(self):
        return self.running.beat()

    def kept(self):
        return self.running.kept()

    def left(self, name):
        self.check_spring(name)
        return self.running.left(name)

    def periods(self):
        return look(self.running.plan)

    def round_now(self):
        return round_of(self.running.plan)

    def told(self, *, first=0):
        return list(self.lines[first:])

    def graph(self):
        return graph_of(self.running.plan)

    def deeds(self):
        return len(self.stack)

    def twin(self):
        fresh = Mill(self.running.plan)
        fresh.running = self.running
        fresh.lines = self.lines
        fresh.stack = list(self.stack)
        return fresh

    def busy(self):
        return self.under_way

    def log(self):
        return list(self.entries)
