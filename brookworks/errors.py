"""All errors of the package, each straight under one of Python's own."""


class BadText(ValueError):
    """A text that is no NUMBER's."""

    def __init__(self, text):
        self.text = text


class BadWord(ValueError):
    """The number of the word with which no TERM's text goes on so."""

    def __init__(self, at):
        self.at = at


class BadRow(ValueError):
    """The number of the row that isn't so written, or can't stand there."""

    def __init__(self, row):
        self.row = row


class BadName(ValueError):
    """A name that is no NAME, or a spring's."""

    def __init__(self, name):
        self.name = name


class BadTerm(ValueError):
    """A thing that is no TERM."""

    def __init__(self, thing):
        self.thing = thing


class BadNumbers(ValueError):
    """A thing that is no list of NUMBERs."""

    def __init__(self, thing):
        self.thing = thing


class BadDeed(ValueError):
    """The place of a deed that is none."""

    def __init__(self, number):
        self.number = number


class Clash(ValueError):
    """The number of the first rule that can't be kept with all ahead of it."""

    def __init__(self, number):
        self.number = number


class Loose(ValueError):
    """The first PLACE whose period is left open."""

    def __init__(self, place):
        self.place = place


class Round(ValueError):
    """A ring of brooks that use one another now."""

    def __init__(self, ring):
        self.ring = ring


class NoBrook(KeyError):
    """A name that is no brook's."""

    def __init__(self, name):
        self.name = name


class NoSpring(KeyError):
    """A name that is no spring's."""

    def __init__(self, name):
        self.name = name


class NoName(KeyError):
    """A name in a TERM that is neither a spring's nor a brook's."""

    def __init__(self, name):
        self.name = name


class NoOut(KeyError):
    """A name that is no out's."""

    def __init__(self, out):
        self.out = out


class NotGiven(KeyError):
    """The first spring of which too few numbers are given."""

    def __init__(self, name):
        self.name = name


class NoPath(LookupError):
    """A path that leads nowhere in a TERM."""

    def __init__(self, path):
        self.path = path


class Dry(LookupError):
    """The first spring that has no number left."""

    def __init__(self, name):
        self.name = name


class NotNow(RuntimeError):
    """A change that can't be made at this beat."""

    def __init__(self, at):
        self.at = at


class Used(RuntimeError):
    """The first other brook that uses the one to be dropped."""

    def __init__(self, other):
        self.other = other


class LastOut(RuntimeError):
    """The one out there is."""

    def __init__(self, name):
        self.name = name


class IsOut(RuntimeError):
    """A brook that is an out."""

    def __init__(self, name):
        self.name = name


class NotOut(RuntimeError):
    """A name that is no out."""

    def __init__(self, name):
        self.name = name


class Unsure(RuntimeError):
    """The first pick whose choice may be off."""

    def __init__(self, node):
        self.node = node


class TooFar(OverflowError):
    """The first PLACE whose period is none of those let."""

    def __init__(self, place):
        self.place = place


class TooFew(OverflowError):
    """How many boxes are needed."""

    def __init__(self, need):
        self.need = need


class Small(OverflowError):
    """Where a number doesn't fit into a device's box."""

    def __init__(self, place):
        self.place = place


class TooMany(OverflowError):
    """How many ways are let at most."""

    def __init__(self, most):
        self.most = most


class TooBig(OverflowError):
    """A program that would pass its bounds."""
