"""A device: rows done beat by beat, in boxes that hold numbers of few figures."""

from brookworks.errors import Dry, Small
from brookworks.givens import queue_in
from brookworks.limits import FIGURES, WIDE
from brookworks.nums import cut_of, times_of
from brookworks.rows import reads_of
from brookworks.worths import of_args


def springs_taken(code):
    """The rising list of the springs that rows take, or drop."""
    return sorted(set([row[2] for rows in code[2] for row in rows if row[0] == "take"]))


def takes_below(code, name, beats):
    """How often that spring is taken, or dropped, at all beats below that."""
    long = len(code[2])
    takes = [len([row for row in rows if row[0] == "take" and row[2] == name]) for rows in code[2]]
    return beats // long * sum(takes) + sum(takes[:beats % long])


class Device:
    """A device that does a CODE's rows, beat 0 next at first; refused with Small."""

    def __init__(self, code, *, wide=WIDE, figures=FIGURES):
        self.code = code
        self.wide = wide
        self.figures = figures
        self.next_beat = 0
        self.holds = {}
        self.queues = {name: [] for name in springs_taken(code)}
        for box, _, number in code[1]:
            if number is not None:
                cut = cut_of(number, figures)
                if not self.fits(cut):
                    raise Small(("kept", box))
                self.holds[box] = cut

    def __eq__(self, other):
        if not isinstance(other, Device) or self.code != other.code:
            return False
        if self.wide != other.wide or self.figures != other.figures or self.next_beat != other.next_beat:
            return False
        return self.holds == other.holds and self.queues == other.queues

    def __len__(self):
        return len(range(self.next_beat))

    def fits(self, number):
        """Whether a number of no more figures than let has room in a box."""
        most = 1 << (self.wide - 1)
        worth = (number[0] << self.figures) // number[1]
        return -most <= worth < most

    def feed(self, name, numbers):
        queue_in(self.queues, name).extend(list(numbers))

    def check_fed(self, beats):
        """Refused with Dry where a spring has too few for so many beats."""
        for name in sorted(self.queues):
            ahead = takes_below(self.code, name, self.next_beat)
            if takes_below(self.code, name, self.next_beat + beats) - ahead > len(self.queues[name]):
                raise Dry(name)

    def comes(self, row):
        """What comes of a row that's no give, cut where it's to be."""
        word = row[0]
        if word == "take":
            return cut_of(self.queues[row[2]].pop(0), self.figures)
        if word == "fix":
            return cut_of(row[2], self.figures)
        read = [self.holds[box] for box in reads_of(row)]
        if word == "copy":
            return read[0]
        if word == "by":
            return cut_of(times_of(row[2], read[0]), self.figures)
        return of_args(word, None, read)

    def done_now(self):
        """The next beat's rows are done, as far as what comes fits: only a like one can be put at risk."""
        beat = self.next_beat
        given = []
        for at, row in enumerate(self.code[2][beat % len(self.code[2])]):
            if row[0] == "give":
                given.append((row[1], self.holds[row[2]]))
                continue
            number = self.comes(row)
            if row[1] is not None:
                if not self.fits(number):
                    raise Small((beat, at))
                self.holds[row[1]] = number
        self.next_beat += 1
        return sorted(set(given))

    def step(self):
        return self.run(1)[0]

    def run(self, beats):
        self.check_fed(beats)
        ahead = self.like()
        rows = []
        for _ in range(beats):
            rows.append(ahead.done_now())
        self.next_beat = ahead.next_beat
        self.holds = ahead.holds
        self.queues = ahead.queues
        return rows

    def beat(self):
        return self.next_beat

    def boxes(self):
        return [self.holds.get(box) for box in range(self.code[0])]

    def left(self, name):
        return list(queue_in(self.queues, name))

    def image(self):
        holds = tuple([(box, self.holds[box]) for box in sorted(self.holds)])
        queues = tuple([(name, tuple(self.queues[name])) for name in sorted(self.queues)])
        return (self.wide, self.figures, self.next_beat, holds, queues)

    def like(self):
        return device_of(self.code, self.image())


def device_of(code, image):
    wide, figures, beat, holds, queues = image
    device = Device(code, wide=wide, figures=figures)
    device.next_beat = beat
    device.holds = {box: number for box, number in holds}
    device.queues = {name: list(numbers) for name, numbers in queues}
    return device
