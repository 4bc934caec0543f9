"""A paper: an old text, the strokes of several pens upon it, and what has been decided of them."""

from redquill.errors import Decided, Leaned, NoStroke, NotYours
from redquill.places import check_gap, check_stretch
from redquill.readings import reading, seated
from redquill.strokes import START, Dress, Move, Put, Strike, in_order, stroke_of

WAITS = "waits"
STANDS = "stands"
WIPED = "wiped"


def anchor_at(seats, at):
    if at == 0:
        return START
    return seats[at - 1][0]


def names_between(seats, at, to):
    return tuple([seat[1] for seat in seats[at:to]])


class Paper:
    def __init__(self, old):
        self.old = old
        self.drawn = []
        self.states = {}
        self.greatest = {}
        self.time = 0

    def old_text(self):
        return self.old

    def strokes(self):
        return list(self.drawn)

    def numbers(self):
        return sorted(self.greatest.items())

    def last_time(self):
        return self.time

    def check_known(self, name):
        if name not in self.states:
            raise NoStroke(name)

    def state(self, name):
        self.check_known(name)
        return self.states[name]

    def strokes_in(self, state):
        return [row for row in self.drawn if self.states[row[0]] == state]

    def waiting(self):
        return [row[0] for row in self.strokes_in(WAITS)]

    def standing(self):
        return [row[0] for row in self.strokes_in(STANDS)]

    def unwiped(self):
        return [row[0] for row in self.drawn if self.states[row[0]] != WIPED]

    def view(self):
        return reading(self.old, self.drawn, self.unwiped())

    def seats(self):
        return seated(self.old, self.drawn, self.unwiped())

    def coming_name(self, pen):
        return (pen, self.greatest.get(pen, 0) + 1)

    def coming_time(self):
        return self.time + 1

    def draw(self, stroke):
        # Its time is above all others, so at the end of the list it stands in the order.
        self.drawn.append(stroke.row())
        self.states[stroke.name] = WAITS
        self.greatest[stroke.name[0]] = stroke.name[1]
        self.time = stroke.time
        return stroke.name

    def put(self, pen, at, signs):
        seats = self.seats()
        check_gap(at, len(seats))
        return self.draw(Put(self.coming_name(pen), self.coming_time(), anchor_at(seats, at), signs))

    def strike(self, pen, at, to):
        seats = self.seats()
        check_stretch(at, to, len(seats))
        return self.draw(Strike(self.coming_name(pen), self.coming_time(), names_between(seats, at, to)))

    def dress(self, pen, at, to, word=""):
        seats = self.seats()
        check_stretch(at, to, len(seats))
        return self.draw(Dress(self.coming_name(pen), self.coming_time(), names_between(seats, at, to), word))

    def move(self, pen, at, to, goal):
        seats = self.seats()
        check_stretch(at, to, len(seats))
        check_gap(goal, len(seats))
        names = names_between(seats, at, to)
        return self.draw(Move(self.coming_name(pen), self.coming_time(), names, anchor_at(seats, goal)))

    def part(self, pen, at):
        return self.put(pen, at, "\n")

    def check_waits(self, name):
        if self.state(name) != WAITS:
            raise Decided(name)

    def let_stand(self, name):
        self.check_waits(name)
        self.states[name] = STANDS

    def wipe(self, name):
        self.check_waits(name)
        self.states[name] = WIPED

    def leaning_on(self, name):
        self.check_known(name)
        return [row[0] for row in self.drawn if name in stroke_of(row).leans()]

    def take_back(self, pen, name):
        self.check_known(name)
        if name[0] != pen:
            raise NotYours(name)
        self.check_waits(name)
        leaning = self.leaning_on(name)
        if leaning != []:
            raise Leaned(leaning)
        # Its number and its time are kept apart from the strokes, so they stay used.
        self.drawn = [row for row in self.drawn if row[0] != name]
        self.states.pop(name)

    def fill(self, strokes, states, numbers, time):
        self.drawn = in_order(strokes)
        self.states = dict(states)
        self.greatest = dict(numbers)
        self.time = time
