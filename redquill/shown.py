"""What a paper shows: the signs before and after its waiting strokes, and the pens at work on each."""

from redquill.paper import WAITS
from redquill.readings import seated
from redquill.slots import slots_of
from redquill.strokes import stroke_of


def signs_by_slot(seats):
    return dict([(seat[0], seat[1:3]) for seat in seats])


def shown(paper):
    before = signs_by_slot(seated(paper.old_text(), paper.strokes(), paper.standing()))
    after = signs_by_slot(paper.seats())
    # A slot is only ever taken by one sign, so it doesn't matter which of the two is looked at first.
    sitting = dict(before)
    sitting.update(after)
    row = [slot for slot in slots_of(paper.old_text(), paper.strokes()) if slot in sitting]
    return [(slot,) + sitting[slot] + (slot in before, slot in after) for slot in row]


def bits_of_pens(rows):
    pens = sorted(set([row[0][0] for row in rows]))
    return dict([(pen, 1 << k) for k, pen in enumerate(pens)])


def who(paper):
    bits = bits_of_pens(paper.strokes())
    at_work = {}
    for row in paper.strokes_in(WAITS):
        for name in stroke_of(row).concerned():
            # Not added: a pen counts once, however many of its strokes have to do with the sign.
            at_work[name] = at_work.get(name, 0) | bits[row[0][0]]
    return [at_work.get(row[0], 0) for row in paper.view()]
