"""Programs done beat by beat, by what's kept from one beat to the next."""

from brookworks.errors import Dry
from brookworks.givens import many_below, queue_in
from brookworks.keeps import first_kept, keeps, kept_next, number_now
from brookworks.looks import periods_of
from brookworks.programs import spring_names
from brookworks.terms import part_at
from brookworks.turns import order_of, turns_of


class Streams:
    """A program, beat 0 next at first; refused as look is."""

    def __init__(self, program):
        self.plan = program
        self.rates = dict(periods_of(program))
        self.turns = turns_of(program, order_of(program))
        self.next_beat = 0
        terms = dict(program[1])
        parts = [((name, path), part_at(terms[name], path)) for name, path in self.rates]
        self.keeping = {place: first_kept(part) for place, part in parts if keeps(part)}
        self.queues = {name: [] for name in spring_names(program)}

    def __eq__(self, other):
        if not isinstance(other, Streams) or self.plan != other.plan:
            return False
        if self.next_beat != other.next_beat or self.keeping != other.keeping:
            return False
        return self.queues == other.queues

    def __len__(self):
        return len(range(self.next_beat))

    def feed(self, name, numbers):
        queue_in(self.queues, name).extend(list(numbers))

    def check_fed(self, beats):
        """Refused with Dry where a spring has too few for so many beats."""
        for name, period in sorted(self.plan[0]):
            told = many_below(period, self.next_beat)
            if many_below(period, self.next_beat + beats) - told > len(self.queues[name]):
                raise Dry(name)

    def taken_now(self):
        """The dict from each spring that tells a number at the next beat to that number."""
        springs = [name for name, period in self.plan[0] if self.next_beat % period == 0]
        return {name: self.queues[name].pop(0) for name in springs}

    def tell(self, taken):
        """What each PLACE tells at the next beat, of those that tell a number; kept is what's to be."""
        turns = [turn for turn in self.turns if self.next_beat % self.rates[turn[0]] == 0]
        told = {}
        for place, part, within in turns:
            if part[0] == "name":
                told[place] = taken[part[1]] if part[1] in taken else told[(part[1], ())]
            else:
                # What's within a late, or a twice that tells its number again, isn't told yet, or not now.
                numbers = [told[inner] for inner in within if inner in told]
                told[place] = number_now(part, self.keeping.get(place), numbers)
        for place, _, within in turns:
            if place in self.keeping:
                numbers = [told[inner] for inner in within if inner in told]
                self.keeping[place] = kept_next(self.keeping[place], numbers)
        return told

    def step(self):
        self.check_fed(1)
        told = self.tell(self.taken_now())
        self.next_beat += 1
        return [(name, told[(name, ())]) for name in self.plan[2] if (name, ()) in told]

    def run(self, beats):
        self.check_fed(beats)
        rows = []
        for _ in range(beats):
            rows.append(self.step())
        return rows

    def beat(self):
        return self.next_beat

    def kept(self):
        return [(place, self.keeping[place]) for place in self.keeping]

    def left(self, name):
        return list(queue_in(self.queues, name))

    def like(self):
        fresh = Streams(self.plan)
        fresh.next_beat = self.next_beat
        fresh.keeping = {place: self.keeping[place] for place in self.keeping}
        fresh.queues = {name: list(self.queues[name]) for name in self.queues}
        return fresh
