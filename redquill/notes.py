"""Notes in the margin of a paper: laid on signs of its view, and answered."""

from redquill.errors import NoNote, OutOfPlace, TooDeep
from redquill.places import check_stretch
from redquill.readings import marked

DEEPEST = 10


class Answer:
    def __init__(self, name, words, depth):
        self.name = name
        self.words = words
        self.depth = depth
        self.answers = []

    def answers_told(self):
        # No deeper than answers may lie, so the calls within calls stay few.
        return [(answer.name, answer.words, answer.answers_told()) for answer in self.answers]


class Note(Answer):
    def __init__(self, name, words, names):
        Answer.__init__(self, name, words, 1)
        self.names = names

    def numbers_in(self, view):
        noted = marked(self.names)
        return [number for number, row in enumerate(view) if row[0] in noted]


class Margin:
    def __init__(self, paper):
        self.paper = paper
        self.laid = []
        self.known = {}
        self.greatest = {}

    def coming_name(self, pen):
        return (pen, self.greatest.get(pen, 0) + 1)

    def keep(self, answer):
        self.known[answer.name] = answer
        self.greatest[answer.name[0]] = answer.name[1]
        return answer.name

    def note(self, pen, at, to, words):
        view = self.paper.view()
        check_stretch(at, to, len(view))
        laid = Note(self.coming_name(pen), words, [row[0] for row in view[at:to]])
        self.laid.append(laid)
        return self.keep(laid)

    def answer(self, pen, note, words):
        if note not in self.known:
            raise NoNote(note)
        answered = self.known[note]
        if answered.depth == DEEPEST:
            raise TooDeep(note)
        given = Answer(self.coming_name(pen), words, answered.depth + 1)
        answered.answers.append(given)
        return self.keep(given)

    def told(self):
        view = self.paper.view()
        return [(note.name, note.numbers_in(view), note.words, note.answers_told()) for note in self.laid]

    def on(self, at):
        view = self.paper.view()
        if not 0 <= at < len(view):
            raise OutOfPlace(at)
        return [note.name for note in self.laid if view[at][0] in note.names]
