"""Choices among the waiting strokes: what comes of one, and many strokes decided at once."""

from redquill.paper import WAITS
from redquill.readings import marked, reading
from redquill.shown import shown
from redquill.strokes import stroke_of


def chosen(names, bits):
    return [name for k, name in enumerate(names) if (bits >> k) % 2 == 1]


def outcome(paper, bits):
    standing = paper.standing() + chosen(paper.waiting(), bits)
    return reading(paper.old_text(), paper.strokes(), standing)


def picked(paper, which):
    # All are picked ahead of any decision, so that no decision can change what is picked.
    return [row[0] for row in paper.strokes_in(WAITS) if which is None or which(row)]


def let_stand_all(paper, which=None):
    names = picked(paper, which)
    for name in names:
        paper.let_stand(name)
    return names


def wipe_all(paper, which=None):
    names = picked(paper, which)
    for name in names:
        paper.wipe(name)
    return names


def by_pen(pen):
    return lambda row: row[0][0] == pen


def in_stretch(paper, at, to):
    # A slice would count numbers below 0 from the end, where no rows are meant.
    stretch = shown(paper)[max(at, 0):max(to, 0)]
    names = marked([row[1] for row in stretch])
    return lambda row: any([name in names for name in stroke_of(row).concerned()])
