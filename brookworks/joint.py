"""Papers of a device's run, and papers joined from end to end."""

from brookworks.codecheck import shows_code
from brookworks.codes import code_of
from brookworks.device import Device, springs_taken, takes_below
from brookworks.errors import Small
from brookworks.givens import check_counts, is_told
from brookworks.graphs import alike_in, graph_of, is_graph
from brookworks.limits import FIGURES, MOST_BEATS, WIDE
from brookworks.lookpapers import look_paper, shows_look
from brookworks.maps import map_of, shows_map
from brookworks.things import are_same

# As many as a code can call, lest one be refused.
BOXES = 10 ** 6


def taken_at(code, beat):
    """The names of the springs that are taken, or dropped, at a beat, rising."""
    rows = code[2][beat % len(code[2])]
    return sorted([row[2] for row in rows if row[0] == "take"])


def beat_done(device, ins):
    """The RECORD's part of a device's next beat, to which these pairs (NAME, number) are fed."""
    beat = device.beat()
    for name, number in ins:
        device.feed(name, [number])
    outs = device.step()
    return [(beat, "in", name, number) for name, number in ins] + [(beat, "out", name, number) for name, number in outs]


def record_of(code, given, beats, *, wide=WIDE, figures=FIGURES):
    counts = [(name, takes_below(code, name, beats)) for name in springs_taken(code)]
    check_counts(counts, given)
    device = Device(code, wide=wide, figures=figures)
    rest = {name: list(given[name]) for name, many in counts}
    record = []
    for beat in range(beats):
        ins = [(name, rest[name].pop(0)) for name in taken_at(code, beat)]
        record.extend(beat_done(device, ins))
    return record


def is_in(thing):
    """Whether a thing can stand in a RECORD where a spring's number does, as far as that number goes."""
    return type(thing) is tuple and len(thing) == 4 and is_told(thing[3])


def beats_shown(device, code, rows):
    """Whether rows are the RECORD of a run of the device; refused with Small where it can't go on."""
    shown = 0
    for beat in range(MOST_BEATS):
        if shown == len(rows):
            return True
        names = taken_at(code, beat)
        ins = rows[shown:shown + len(names)]
        if len(ins) < len(names) or not all([is_in(row) for row in ins]):
            return False
        told = beat_done(device, [(name, row[3]) for name, row in zip(names, ins)])
        if not are_same(rows[shown:shown + len(told)], told):
            return False
        shown += len(told)
    return shown == len(rows)


def shows_record(code, thing, *, wide=WIDE, figures=FIGURES):
    if type(thing) is not list:
        return False
    try:
        return beats_shown(Device(code, wide=wide, figures=figures), code, thing)
    except Small:
        return False


def joined_of(program, given, beats, *, wide=WIDE, figures=FIGURES):
    paper = look_paper(program)
    graph = graph_of(program)
    code = code_of(graph, boxes=BOXES)
    record = record_of(code, given, beats, wide=wide, figures=figures)
    return (paper, map_of(program), graph, code, record)


def shows_joined(program, thing, *, wide=WIDE, figures=FIGURES):
    if type(thing) is not tuple or len(thing) != 5:
        return False
    paper, pairs, graph, code, record = thing
    if not shows_look(program, paper) or not is_graph(graph) or alike_in(graph) != []:
        return False
    if not shows_map(program, graph, pairs) or not shows_code(graph, code):
        return False
    return shows_record(code, record, wide=wide, figures=figures)


def outs_in(thing):
    _, _, graph, _, record = thing
    told = {}
    for out, _ in graph[1]:
        told[out] = [number for beat, way, name, number in record if way == "out" and name == out]
    return told
