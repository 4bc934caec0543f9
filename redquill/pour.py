"""Papers of one old text poured together, and the clashes between their strokes."""

from redquill.errors import OtherText, Twice
from redquill.paper import STANDS, WAITS, WIPED, Paper
from redquill.strokes import place_in_order, stroke_of

# Kinds of acts, sorted within each pair. Two dresses clash by their words alone.
CLASHING = (("dress", "strike"), ("move", "move"), ("move", "strike"))


def strokes_by_name(paper):
    return dict([(row[0], row) for row in paper.strokes()])


def check_pourable(one, other):
    if one.old_text() != other.old_text():
        raise OtherText()
    there = strokes_by_name(other)
    for row in one.strokes():
        if there.get(row[0], row) != row:
            raise Twice(row[0])


def stronger(states):
    if WIPED in states:
        return WIPED
    if STANDS in states:
        return STANDS
    return WAITS


def states_of(paper):
    return dict([(row[0], paper.state(row[0])) for row in paper.strokes()])


def poured_states(one, other):
    told = states_of(one)
    for name, state in states_of(other).items():
        told[name] = stronger((state, told.get(name, state)))
    return list(told.items())


def greater_numbers(one, other):
    greatest = dict(one.numbers())
    for pen, number in other.numbers():
        greatest[pen] = max(number, greatest.get(pen, number))
    return list(greatest.items())


def poured(one, other):
    check_pourable(one, other)
    paper = Paper(one.old_text())
    time = max(one.last_time(), other.last_time())
    paper.fill(one.strokes() + other.strokes(), poured_states(one, other), greater_numbers(one, other), time)
    return paper


def own_strokes(paper, other):
    there = strokes_by_name(other)
    return [row for row in paper.strokes() if row[0] not in there and paper.state(row[0]) != WIPED]


def strokes_by_sign(rows):
    naming = {}
    for row in rows:
        for sign in stroke_of(row).touched():
            naming.setdefault(sign, []).append(row)
    return naming


def is_clash(act, other_act):
    if act[0] == "dress" and other_act[0] == "dress":
        return act[2] != other_act[2]
    return tuple(sorted([act[0], other_act[0]])) in CLASHING


def clashing_pairs(rows, other_rows):
    pairs = []
    for row in rows:
        for other_row in other_rows:
            if is_clash(row[2], other_row[2]):
                pairs.append(sorted([row, other_row], key=place_in_order))
    return pairs


def places_of_pair(pair):
    return [place_in_order(row) for row in pair]


def clashes(one, other):
    check_pourable(one, other)
    naming = strokes_by_sign(own_strokes(one, other))
    naming_there = strokes_by_sign(own_strokes(other, one))
    told = []
    for sign in sorted(naming):
        pairs = clashing_pairs(naming[sign], naming_there.get(sign, []))
        for ahead, behind in sorted(pairs, key=places_of_pair):
            told.append((sign, ahead[0], behind[0]))
    return told
