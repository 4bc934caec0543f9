"""Paragraphs and runs of a reading, and the joining of two paragraphs of a paper."""

from redquill.errors import OutOfPlace
from redquill.places import check_gap

PARAGRAPH_END = "\n"


def paragraphs(rows):
    told = []
    start = 0
    for number, row in enumerate(rows):
        if row[1] == PARAGRAPH_END:
            told.append((start, number))
            start = number + 1
    told.append((start, len(rows)))
    return told


def paragraph_at(rows, at):
    check_gap(at, len(rows))
    return len([row for row in rows[:at] if row[1] == PARAGRAPH_END])


def runs_within(rows, start, end):
    told = []
    begun = start
    for number in range(start, end):
        last = number + 1
        if last == end or rows[last][2] != rows[number][2]:
            told.append((begun, last, rows[number][2]))
            begun = last
    return told


def runs(rows):
    told = []
    for start, end in paragraphs(rows):
        told.extend(runs_within(rows, start, end))
    return told


def join(paper, pen, number):
    told = paragraphs(paper.view())
    # The last paragraph is ended by no sign that could be struck.
    if not 0 <= number < len(told) - 1:
        raise OutOfPlace(number)
    end = told[number][1]
    return paper.strike(pen, end, end + 1)
