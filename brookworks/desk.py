"""A desk: rows of text done to a mill, each of them answered."""

from brookworks.codes import code_of
from brookworks.deskrows import order_in
from brookworks.errors import (
    BadName, BadNumbers, BadRow, Clash, Dry, IsOut, LastOut, Loose, NoBrook, NoName, NoOut, NoSpring, NotNow,
    NotOut, Round, TooBig, TooFar, TooFew, Unsure, Used,
)
from brookworks.mill import Mill
from brookworks.noise import noise_of
from brookworks.nums import num_text
from brookworks.texts import program_told
from brookworks.ways import least_way

NOISE_BEATS = 16


def words_or_none(words):
    return " ".join(words) if words else "-"


def fed(mill, order):
    mill.feed(order[1], order[2])
    return "done"


def gone(mill, order):
    rows = mill.go(beats=order[1])
    return words_or_none([f"{name}:{num_text(number)}" for row in rows for name, number in row])


def put(mill, order):
    mill.put(order[1], order[2], keep=order[0] == "keep")
    return "done"


def dropped(mill, order):
    mill.drop(order[1])
    return "done"


def shown(mill, order):
    mill.show(order[1])
    return "done"


def hidden(mill, order):
    mill.hide(order[1])
    return "done"


def undone(mill, order):
    return "done" if mill.undo() else "nothing"


def beat_told(mill, order):
    return str(mill.beat())


def round_told(mill, order):
    return str(mill.round_now())


def deeds_told(mill, order):
    return str(mill.deeds())


def periods_told(mill, order):
    return " ".join([f"{name}:{period}" for name, period in mill.periods()])


def left_told(mill, order):
    return words_or_none([num_text(number) for number in mill.left(order[1])])


def boxes_told(mill, order):
    boxes, _, _ = code_of(mill.graph())
    return str(boxes)


def late_told(mill, order):
    told = least_way(mill.graph(), order[1], order[2])
    return "-" if told is None else str(told[0])


def noise_told(mill, order):
    spans = noise_of(mill.graph(), NOISE_BEATS, figures=order[1])
    words = []
    for name, told in spans.items():
        low, high = told[-1]
        words.append(f"{name}:{num_text(low)}:{num_text(high)}")
    return " ".join(words)


ANSWERS = {
    "feed": fed, "go": gone, "put": put, "keep": put, "drop": dropped, "show": shown, "hide": hidden, "undo": undone,
    "beat": beat_told, "round": round_told, "deeds": deeds_told, "periods": periods_told, "left": left_told,
    "boxes": boxes_told, "late": late_told, "noise": noise_told,
}


def answer(mill, order):
    done = ANSWERS[order[0]]
    try:
        return done(mill, order)
    except (
        BadName, BadNumbers, Clash, Dry, IsOut, LastOut, Loose, NoBrook, NoName, NoOut, NoSpring, NotNow, NotOut,
        Round, TooBig, TooFar, TooFew, Unsure, Used,
    ) as refused:
        return "refused " + type(refused).__name__


def orders_behind(rows, first):
    """The list of what these rows ask, the first of them having that number."""
    orders = []
    for at, row in enumerate(rows, start=first):
        if row != "":
            order = order_in(row)
            if order is None:
                raise BadRow(at)
            orders.append(order)
    return orders


def answers(text):
    rows = text.split("\n")
    many = rows.index("mill") if "mill" in rows else len(rows)
    program = program_told(rows[:many])
    if many == len(rows):
        raise BadRow(many)
    orders = orders_behind(rows[many + 1:], many + 1)
    mill = Mill(program)
    return [answer(mill, order) for order in orders]
