"""Strokes: what each makes, touches and leans on, and the order in which they come."""

START = ("", 0, 0)


def slots_made(name, how_many):
    return [name + (k,) for k in range(1, how_many + 1)]


class Stroke:
    def __init__(self, name, time):
        self.name = name
        self.time = time
        # START belongs to no stroke, so one without an anchor of its own leans on nothing by it.
        self.anchor = START
        self.names = ()

    def slots(self):
        return []

    def touched(self):
        return list(self.names)

    def concerned(self):
        return self.touched()

    def leans(self):
        named = self.touched() + [self.anchor]
        return sorted(set([slot[:2] for slot in named if slot[0] != ""]))


class Put(Stroke):
    def __init__(self, name, time, anchor, signs):
        Stroke.__init__(self, name, time)
        self.anchor = anchor
        self.signs = signs

    def slots(self):
        return slots_made(self.name, len(self.signs))

    def concerned(self):
        # The signs that it puts in are named by the slots that it makes.
        return self.slots()

    def row(self):
        return (self.name, self.time, ("put", self.anchor, self.signs))


class Strike(Stroke):
    def __init__(self, name, time, names):
        Stroke.__init__(self, name, time)
        self.names = names

    def row(self):
        return (self.name, self.time, ("strike", self.names))


class Dress(Stroke):
    def __init__(self, name, time, names, word):
        Stroke.__init__(self, name, time)
        self.names = names
        self.word = word

    def row(self):
        return (self.name, self.time, ("dress", self.names, self.word))


class Move(Stroke):
    def __init__(self, name, time, names, anchor):
        Stroke.__init__(self, name, time)
        self.names = names
        self.anchor = anchor

    def slots(self):
        return slots_made(self.name, len(self.names))

    def row(self):
        return (self.name, self.time, ("move", self.names, self.anchor))


def stroke_of(row):
    name = row[0]
    time = row[1]
    act = row[2]
    if act[0] == "put":
        return Put(name, time, act[1], act[2])
    if act[0] == "strike":
        return Strike(name, time, act[1])
    if act[0] == "dress":
        return Dress(name, time, act[1], act[2])
    return Move(name, time, act[1], act[2])


def place_in_order(row):
    return (row[1], row[0])


def in_order(rows):
    by_name = {}
    for row in rows:
        by_name[row[0]] = row
    return sorted(by_name.values(), key=place_in_order)
