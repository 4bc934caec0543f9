"""The row of slots: the order of all places for signs, the same whichever strokes stand."""

from redquill.strokes import START, in_order, slots_made, stroke_of


def old_slots(old):
    return slots_made(START[:2], len(old))


def lay_behind(following, anchor, slots):
    behind = anchor
    for slot in slots:
        following[slot] = following[behind]
        following[behind] = slot
        behind = slot


def chained(following):
    row = []
    slot = following[START]
    while slot is not None:
        row.append(slot)
        slot = following[slot]
    return row


def slots_of(old, strokes):
    # Each slot points at the one behind it, so that a long row need not be searched for every anchor.
    following = {START: None}
    lay_behind(following, START, old_slots(old))
    for stroke in [stroke_of(row) for row in in_order(strokes)]:
        if stroke.anchor in following:
            lay_behind(following, stroke.anchor, stroke.slots())
    return chained(following)
