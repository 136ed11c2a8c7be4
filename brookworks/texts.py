"""The texts of TERMs and PROGRAMs."""

from brookworks.errors import BadRow, BadText, BadWord
from brookworks.limits import MOST_BROOKS, MOST_OUTS, MOST_SPRINGS
from brookworks.nums import num_in, num_text
from brookworks.programs import is_period, is_program
from brookworks.terms import SHAPES, inner_of, is_name, is_of_kind, is_term

# These words of TERMs aren't written: a number or a name alone tells as much.
UNWRITTEN = ("fixed", "name")


def head_words(part):
    """The words of a part that stand ahead of those of the TERMs within."""
    word = part[0]
    if word == "fixed":
        return [num_text(part[1])]
    if word == "name":
        return [part[1]]
    kinds, _ = SHAPES[word]
    words = [word]
    for at, kind in enumerate(kinds, start=1):
        words.append(str(part[at]) if kind == "window" else num_text(part[at]))
    return words


def term_text(term):
    words = []
    rest = [term]
    while rest:
        part = rest.pop()
        words.extend(head_words(part))
        rest.extend(inner_of(part)[::-1])
    return " ".join(words)


def num_or_none(word):
    try:
        return num_in(word)
    except BadText:
        return None


def whole_or_none(word):
    one = num_or_none(word)
    return one[0] if one is not None and one[1] == 1 else None


def value_in(kind, word):
    """What a word tells where a thing of that kind is awaited; None where it can't stand there."""
    if kind == "term":
        if is_of_kind("name", word):
            return ("name", word)
        number = value_in("number", word)
        return None if number is None else ("fixed", number)
    thing = whole_or_none(word) if kind == "window" else num_or_none(word)
    return thing if is_of_kind(kind, thing) else None


def kinds_behind(kind, word):
    """The kinds of things that are awaited behind a word that begins a longer TERM; else none."""
    if kind != "term" or word in UNWRITTEN or word not in SHAPES:
        return ()
    kinds, many = SHAPES[word]
    return kinds + ("term",) * many


def read_words(words):
    """The list of triples (word, value, many): many more things belong to a word that has no value."""
    read = []
    awaited = ["term"]
    for at, word in enumerate(words):
        if not awaited:
            raise BadWord(at)
        kind = awaited.pop()
        behind = kinds_behind(kind, word)
        value = None if behind else value_in(kind, word)
        if not behind and value is None:
            raise BadWord(at)
        read.append((word, value, len(behind)))
        awaited.extend(behind[::-1])
    if awaited:
        raise BadWord(len(words))
    return read


def built_of(read):
    """The TERM of such triples, put together from the last one on."""
    done = []
    for word, value, many in read[::-1]:
        if many > 0:
            value = (word,) + tuple(done[-many:][::-1])
            del done[-many:]
        done.append(value)
    return done[0]


def term_in(text):
    words = text.split(" ")
    term = built_of(read_words(words))
    if not is_term(term):
        raise BadWord(len(words))
    return term


def term_or_none(text):
    try:
        return term_in(text)
    except BadWord:
        return None


def program_text(program):
    springs, brooks, outs = program
    rows = [f"spring {name} {period}" for name, period in springs]
    rows.extend([f"brook {name} {term_text(term)}" for name, term in brooks])
    rows.extend([f"out {name}" for name in outs])
    return "\n".join(rows)


class Reading:
    """A PROGRAM that's read row by row."""

    def __init__(self):
        self.springs = []
        self.brooks = []
        self.outs = []

    def is_new(self, name):
        """Whether it's a NAME that no spring and no brook has."""
        return is_name(name) and name not in [pair[0] for pair in self.springs + self.brooks]

    def take_spring(self, words):
        if self.brooks or len(self.springs) == MOST_SPRINGS:
            return False
        if len(words) != 3 or not self.is_new(words[1]):
            return False
        period = whole_or_none(words[2])
        if not is_period(period):
            return False
        self.springs.append((words[1], period))
        return True

    def take_brook(self, words):
        if not self.springs or self.outs or len(self.brooks) == MOST_BROOKS:
            return False
        if len(words) < 3 or not self.is_new(words[1]):
            return False
        term = term_or_none(" ".join(words[2:]))
        if term is None:
            return False
        self.brooks.append((words[1], term))
        return True

    def take_out(self, words):
        if len(words) != 2 or len(self.outs) == MOST_OUTS:
            return False
        if words[1] in self.outs or words[1] not in [name for name, term in self.brooks]:
            return False
        self.outs.append(words[1])
        return True

    def take(self, row):
        """Whether the row is so written and can stand there; if so it's taken."""
        words = row.split(" ")
        if words[0] == "spring":
            return self.take_spring(words)
        if words[0] == "brook":
            return self.take_brook(words)
        return words[0] == "out" and self.take_out(words)

    def program(self):
        return (tuple(self.springs), tuple(self.brooks), tuple(self.outs))


def program_told(rows):
    """The PROGRAM that a list of rows tells; refused with BadRow."""
    reading = Reading()
    for at, row in enumerate(rows):
        if not reading.take(row):
            raise BadRow(at)
    program = reading.program()
    if not is_program(program):
        raise BadRow(len(rows))
    return program


def program_in(text):
    return program_told(text.split("\n"))
