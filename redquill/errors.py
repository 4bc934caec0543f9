"""The refusals: one class for each, all of them straight under QuillError."""


class QuillError(ValueError):
    pass


class OutOfPlace(QuillError):
    def __init__(self, at):
        self.at = at


class NoStroke(QuillError):
    def __init__(self, stroke):
        self.stroke = stroke


class Decided(QuillError):
    def __init__(self, stroke):
        self.stroke = stroke


class NotYours(QuillError):
    def __init__(self, stroke):
        self.stroke = stroke


class Twice(QuillError):
    def __init__(self, stroke):
        self.stroke = stroke


class Leaned(QuillError):
    def __init__(self, leaning):
        # A copy, so that the list handed in stays its owner's alone.
        self.leaning = list(leaning)


class OtherText(QuillError):
    pass


class NoNote(QuillError):
    def __init__(self, name):
        self.name = name


class TooDeep(QuillError):
    def __init__(self, name):
        self.name = name


class NoPaper(QuillError):
    def __init__(self, number):
        self.number = number


class NoRow(QuillError):
    pass
