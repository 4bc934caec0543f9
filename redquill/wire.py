"""Papers written as texts, and read again."""

from redquill.errors import NoPaper, NoRow
from redquill.paper import STANDS, WAITS, WIPED, Paper
from redquill.slots import old_slots
from redquill.strokes import START, Put, place_in_order, stroke_of
from redquill.words import (
    check_form,
    dress_of,
    letters_of,
    name_of,
    number_of,
    put_signs_of,
    signs_of,
    slot_of,
    words_of,
    written_dress,
    written_name,
    written_names,
    written_signs,
)


def act_words(act):
    if act[0] == "put":
        return [act[0], written_name(act[1]), written_signs(act[2])]
    names = written_names(act[1], ",")
    if act[0] == "strike":
        return [act[0], names]
    if act[0] == "dress":
        return [act[0], written_dress(act[2]), names]
    return [act[0], written_name(act[2]), names]


def stroke_row(paper, row):
    words = [paper.state(row[0]), written_name(row[0]), str(row[1])]
    return " ".join(words + act_words(row[2]))


def written(paper):
    rows = ["old " + written_signs(paper.old_text()), "time " + str(paper.last_time())]
    rows.extend([f"pen {pen} {number}" for pen, number in paper.numbers()])
    rows.extend([stroke_row(paper, row) for row in paper.strokes()])
    return "\n".join(rows)


class Reader:
    def __init__(self):
        self.old = None
        self.time = None
        self.greatest = {}
        self.drawn = []
        self.states = {}
        # A place ahead of all strokes' places.
        self.last = (0, ("", 0))
        # Since which time each slot, and each sign, is there for others to name: what is old is, ahead of all times.
        self.anchors = {START: 0}
        self.bearers = {}

    def take(self, row):
        if self.old is None:
            self.take_old(row)
        elif self.time is None:
            self.take_time(row)
        elif row.startswith("pen "):
            self.take_pen(row)
        else:
            self.take_stroke(row)

    def take_old(self, row):
        words = words_of(row, 2)
        check_form(words[0] == "old")
        self.old = signs_of(words[1])
        for slot in old_slots(self.old):
            self.anchors[slot] = 0
            self.bearers[slot] = 0

    def take_time(self, row):
        words = words_of(row, 2)
        check_form(words[0] == "time")
        self.time = number_of(words[1])

    def take_pen(self, row):
        words = words_of(row, 3)
        pen = letters_of(words[1])
        number = number_of(words[2])
        check_form(self.drawn == [])
        check_form(all([other < pen for other in self.greatest]))
        check_form(1 <= number <= self.time)
        self.greatest[pen] = number

    def take_stroke(self, row):
        words = words_of(row, 5)
        check_form(words[0] in (WAITS, STANDS, WIPED))
        name = name_of(words[1])
        time = number_of(words[2])
        check_form(name[1] <= self.greatest.get(name[0], 0))
        check_form(name not in self.states)
        check_form(1 <= time <= self.time)
        stroke = stroke_of((name, time, self.act_in(words[3], words[4], time)))
        check_form(self.last < place_in_order(stroke.row()))
        self.keep(stroke, words[0])

    def act_in(self, kind, words, time):
        if kind == "strike":
            return (kind, self.names_ahead(words, time))
        parts = words_of(words, 2)
        if kind == "put":
            return (kind, self.slot_ahead(parts[0], time), put_signs_of(parts[1]))
        names = self.names_ahead(parts[1], time)
        if kind == "dress":
            return (kind, names, dress_of(parts[0]))
        check_form(kind == "move")
        return (kind, names, self.slot_ahead(parts[0], time))

    def slot_ahead(self, word, time):
        slot = slot_of(word)
        check_form(self.anchors.get(slot, time) < time)
        return slot

    def names_ahead(self, words, time):
        names = [slot_of(word) for word in words.split(",")]
        check_form(all([self.bearers.get(name, time) < time for name in names]))
        check_form(len(set(names)) == len(names))
        return tuple(names)

    def keep(self, stroke, state):
        self.drawn.append(stroke.row())
        self.states[stroke.name] = state
        self.last = place_in_order(stroke.row())
        for slot in stroke.slots():
            self.anchors[slot] = stroke.time
            if isinstance(stroke, Put):
                self.bearers[slot] = stroke.time

    def filled(self):
        paper = Paper(self.old)
        paper.fill(self.drawn, list(self.states.items()), list(self.greatest.items()), self.time)
        return paper


def read(text):
    if not isinstance(text, str):
        raise NoPaper(0)
    rows = text.split("\n")
    reader = Reader()
    for number, row in enumerate(rows):
        try:
            reader.take(row)
        except NoRow:
            raise NoPaper(number) from None
    if reader.time is None:
        raise NoPaper(len(rows))
    return reader.filled()
