"""A plain text: a row of signs, each with the word that it wears."""

from redquill.places import check_gap, check_stretch


def undressed(signs):
    return [(sign, "") for sign in signs]


class Plain:
    def __init__(self, text):
        self.worn = undressed(text)

    def put(self, at, signs):
        check_gap(at, len(self.worn))
        self.worn = self.worn[:at] + undressed(signs) + self.worn[at:]

    def strike(self, at, to):
        check_stretch(at, to, len(self.worn))
        self.worn = self.worn[:at] + self.worn[to:]

    def dress(self, at, to, word=""):
        check_stretch(at, to, len(self.worn))
        dressed = [(sign, word) for sign, old_word in self.worn[at:to]]
        self.worn = self.worn[:at] + dressed + self.worn[to:]

    def move(self, at, to, goal):
        check_stretch(at, to, len(self.worn))
        check_gap(goal, len(self.worn))
        # The goal counts the signs as they were, so it may lie on either side of the stretch or within it;
        # a slice whose end is ahead of its start is empty, which leaves out the side that has nothing to give.
        ahead = self.worn[:min(at, goal)] + self.worn[to:goal]
        behind = self.worn[goal:at] + self.worn[max(to, goal):]
        self.worn = ahead + self.worn[at:to] + behind

    def rows(self):
        return list(self.worn)
