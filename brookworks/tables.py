"""Tables of all that a program tells, PLACE by PLACE."""

from brookworks.givens import check_given
from brookworks.looks import periods_of
from brookworks.programs import brook_names, spring_names
from brookworks.terms import WINDOWS, number_in
from brookworks.worths import number_of, of_window


def window_at(part, at, numbers):
    """The numbers in a window at its number `at`; ahead of the first one its N stands."""
    long = part[1]
    told = numbers[max(0, at + 1 - long):at + 1]
    return [number_in(part)] * (long - len(told)) + told


class Table:
    """Of each PLACE the list of what it told so far; refused as look is, and with NotGiven."""

    def __init__(self, program, given, beats):
        self.rates = dict(periods_of(program))
        check_given(program[0], given, beats)
        self.names = brook_names(program)
        self.springs = {name: given[name] for name in spring_names(program)}
        self.lists = {place: [] for place in self.rates}

    def number_at(self, part, within, at):
        if part[0] == "name":
            name = part[1]
            return self.springs[name][at] if name in self.springs else self.lists[(name, ())][at]
        lists = [self.lists[place] for place in within]
        if part[0] in WINDOWS:
            return of_window(part[0], window_at(part, at, lists[0]))
        return number_of(part[0], number_in(part), at, lists)

    def fill(self, turns, beat):
        """All PLACEs of these turns tell their numbers of that beat."""
        for place, part, within in turns:
            if beat % self.rates[place] == 0:
                number = self.number_at(part, within, beat // self.rates[place])
                self.lists[place].append(number)

    def told(self):
        """The dict from each brook's NAME to its list."""
        return {name: self.lists[(name, ())] for name in self.names}
