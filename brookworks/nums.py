"""NUMBERs: pairs (number, parts), parts a power of 2, in lowest terms."""

from math import gcd

from brookworks.errors import BadText

# Python refuses to write or read whole numbers of thousands of figures at once:
# they're done by pieces of so many.
PIECE = 64
PIECE_WORTH = 10 ** 64


def is_whole(thing):
    return type(thing) is int


def num_of(number, parts=1):
    common = gcd(number, parts)
    return (number // common, parts // common)


def sum_of(one, other):
    parts = max(one[1], other[1])
    return num_of(one[0] * (parts // one[1]) + other[0] * (parts // other[1]), parts)


def less_of(one, other):
    return sum_of(one, (-other[0], other[1]))


def times_of(one, other):
    return num_of(one[0] * other[0], one[1] * other[1])


def is_below(one, other):
    return one[0] * other[1] < other[0] * one[1]


def least_num(some):
    least = some[0]
    for one in some:
        if is_below(one, least):
            least = one
    return least


def most_num(some):
    most = some[0]
    for one in some:
        if is_below(most, one):
            most = one
    return most


def figures_of(one):
    return one[1].bit_length() - 1


def cut_of(one, figures):
    """The greatest NUMBER of no more figures that isn't above it."""
    spare = figures_of(one) - figures
    if spare <= 0:
        return one
    return num_of(one[0] >> spare, one[1] >> spare)


def is_num(thing):
    if type(thing) is not tuple or len(thing) != 2:
        return False
    number, parts = thing
    if not is_whole(number) or not is_whole(parts) or parts < 1:
        return False
    return parts & (parts - 1) == 0 and (parts == 1 or number & 1 == 1)


def is_num_within(thing, worth, parts):
    """Whether it's a NUMBER worth no more, above nought or below, of no more parts."""
    return is_num(thing) and thing[1] <= parts and abs(thing[0]) <= worth * thing[1]


def whole_text(number):
    if number < 0:
        return "-" + whole_text(-number)
    pieces = []
    while number >= PIECE_WORTH:
        number, piece = divmod(number, PIECE_WORTH)
        pieces.append(str(piece).zfill(PIECE))
    pieces.append(str(number))
    return "".join(pieces[::-1])


def num_text(one):
    if one[1] == 1:
        return whole_text(one[0])
    return whole_text(one[0]) + "/" + whole_text(one[1])


def is_figures(text):
    # isdigit alone takes figures of other scripts, too.
    return text.isascii() and text.isdigit()


def whole_in(figures):
    number = 0
    for sign in figures:
        number = number * 10 + int(sign)
    return number


def num_in(text):
    head, slash, tail = text.partition("/")
    figures = head.removeprefix("-")
    if not is_figures(figures) or (slash == "/" and not is_figures(tail)):
        raise BadText(text)
    number = whole_in(figures)
    if head != figures:
        number = -number
    one = (number, whole_in(tail) if slash == "/" else 1)
    # Noughts ahead, -0 and parts of 1 are read, but never written.
    if not is_num(one) or num_text(one) != text:
        raise BadText(text)
    return one
