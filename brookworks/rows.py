"""Rows of a CODE: which boxes they read and write, and how few boxes will do."""

# At which place of a row the boxes begin that it reads; elsewhere at 2.
READ_FROM = {"take": 3, "fix": 3, "by": 3}


def first_read(row):
    return READ_FROM.get(row[0], 2)


def reads_of(row):
    return row[first_read(row):]


def box_of(row):
    """The box that's written; None where none is."""
    return None if row[0] == "give" else row[1]


def with_boxes(row, box, read):
    """The row with other boxes: box is written, the others are read."""
    first = first_read(row)
    head = row[:first] if row[0] == "give" else (row[0], box) + row[2:first]
    return head + tuple(read)


def least_free(first, taken):
    """The first number from there on that isn't taken."""
    number = first
    while number in taken:
        number += 1
    return number


def settled(rows, many):
    """The rows of one beat, boxes from `many` on exchanged so that as few as can be are needed.

    Each of these is written once, ahead of being read, and is read at least once."""
    last = {box: at for at, row in enumerate(rows) for box in reads_of(row)}
    homes = {}
    told = []
    for at, row in enumerate(rows):
        read = [homes.get(box, box) for box in reads_of(row)]
        # What's read here for the last time makes room for what's written here.
        homes = {box: homes[box] for box in homes if last[box] > at}
        box = box_of(row)
        if box is not None and box >= many:
            homes[box] = least_free(many, list(homes.values()))
        told.append(with_boxes(row, homes.get(box, box), read))
    return tuple(told)


def waiting_behind(rows):
    """Of each row of a beat the list of boxes that behind it hold what was written in this beat
    and is still to be read in it."""
    told = []
    to_be_read = {}
    for at in range(len(rows) - 1, -1, -1):
        written = [box_of(row) for row in rows[:at + 1]]
        told.append([box for box in to_be_read if box in written])
        row = rows[at]
        to_be_read = {box: True for box in to_be_read if box != box_of(row)}
        for box in reads_of(row):
            to_be_read[box] = True
    return told[::-1]


def copies(moves, spare):
    """Rows that copy into each box of the dict `moves` what its other box holds ahead of them all;
    boxes from spare on are free."""
    rest = {box: other for box, other in moves.items() if box != other}
    rows = []
    while rest:
        read = list(rest.values())
        free = [box for box in rest if box not in read]
        if free:
            rows.append(("copy", free[0], rest[free[0]]))
            del rest[free[0]]
        else:
            # They go round and round: what's in one of them is laid aside.
            aside = list(rest)[0]
            rows.append(("copy", spare, aside))
            rest = {box: spare if other == aside else other for box, other in rest.items()}
            spare += 1
    return rows
