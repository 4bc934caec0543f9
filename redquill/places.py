"""Refusals of numbers that lie outside a row of signs, the same for plain texts and for views."""

from redquill.errors import OutOfPlace


def check_gap(at, length):
    # The end is a gap too: what is put there comes behind all signs.
    if not 0 <= at <= length:
        raise OutOfPlace(at)


def check_stretch(at, to, length):
    if not 0 <= at < length:
        raise OutOfPlace(at)
    if not at < to <= length:
        raise OutOfPlace(to)
