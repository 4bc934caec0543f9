"""Readings: which signs are there for a choice of strokes, where each stands and which word it wears."""

from redquill.slots import old_slots, slots_of
from redquill.strokes import Dress, Move, Put, Strike, in_order, stroke_of


def marked(keys):
    return dict([(key, True) for key in keys])


def is_placed(stroke, in_row):
    # A loose stroke has no slot in the row; strikes and dresses make none and are never loose.
    return all([slot in in_row for slot in stroke.slots()])


def effective(strokes, standing, in_row):
    stands = marked(standing)
    chosen = [stroke_of(row) for row in in_order(strokes) if row[0] in stands]
    return [stroke for stroke in chosen if is_placed(stroke, in_row)]


def signs_brought(old, strokes):
    brought = dict(zip(old_slots(old), old))
    for stroke in strokes:
        if isinstance(stroke, Put):
            for name, sign in zip(stroke.slots(), stroke.signs):
                brought[name] = sign
    return brought


def signs_struck(strokes):
    struck = {}
    for stroke in strokes:
        if isinstance(stroke, Strike):
            for name in stroke.touched():
                struck[name] = True
    return struck


def slots_taken(strokes):
    taken = {}
    for stroke in strokes:
        if isinstance(stroke, Move):
            for name, slot in zip(stroke.touched(), stroke.slots()):
                taken[name] = slot
    return taken


def words_worn(strokes):
    worn = {}
    for stroke in strokes:
        if isinstance(stroke, Dress):
            for name in stroke.touched():
                worn[name] = stroke.word
    return worn


def seated(old, strokes, standing):
    row = slots_of(old, strokes)
    working = effective(strokes, standing, marked(row))
    brought = signs_brought(old, working)
    struck = signs_struck(working)
    taken = slots_taken(working)
    worn = words_worn(working)
    sitting = {}
    for name in brought:
        if name not in struck:
            sitting[taken.get(name, name)] = name
    seats = [(slot, sitting[slot]) for slot in row if slot in sitting]
    return [(slot, name, brought[name], worn.get(name, "")) for slot, name in seats]


def reading(old, strokes, standing):
    return [seat[1:] for seat in seated(old, strokes, standing)]


def text_of(rows):
    return "".join([row[1] for row in rows])
