"""What the tests beside this file share: all that a paper tells, and strokes made at random from a seed."""

import random

from redquill.paper import Paper
from redquill.strokes import START

PENS = ("a", "ab", "b", "zed")
STATES = ("waits", "waits", "stands", "wiped")
WORDS = ("", "bold", "small")
SIGNS = "xyz \\\n"


def old_slot(k):
    return ("", 0, k)


def some_names(rng, known):
    return tuple(rng.sample(known, rng.randint(1, min(4, len(known)))))


def some_act(rng, anchors, signs):
    kind = rng.choice(("put", "put", "strike", "dress", "move", "move")) if signs else "put"
    if kind == "put":
        return ("put", rng.choice(anchors), "".join(rng.choices(SIGNS, k=rng.randint(1, 3))))
    if kind == "strike":
        return ("strike", some_names(rng, signs))
    if kind == "dress":
        return ("dress", some_names(rng, signs), rng.choice(WORDS))
    return ("move", some_names(rng, signs), rng.choice(anchors))


def slots_made_by(row):
    name, time, act = row
    if act[0] in ("put", "move"):
        return [name + (k,) for k in range(1, len(act[2] if act[0] == "put" else act[1]) + 1)]
    return []


def sound_strokes(seed, old, how_many):
    """Sound strokes: each slot and each sign named is old or comes from one with a lesser time."""
    rng = random.Random(seed)
    old_signs = [old_slot(k) for k in range(1, len(old) + 1)]
    signs_by_time = [list(old_signs)]
    anchors_by_time = [[START] + old_signs]
    numbers = dict.fromkeys(PENS, 0)
    rows, time = [], 0
    while len(rows) < how_many:
        time += rng.randint(1, 3)
        anchors, signs = list(anchors_by_time[-1]), list(signs_by_time[-1])
        for pen in rng.sample(PENS, rng.choice((1, 1, 2, 3))):
            numbers[pen] += rng.randint(1, 2)
            row = ((pen, numbers[pen]), time, some_act(rng, anchors_by_time[-1], signs_by_time[-1]))
            rows.append(row)
            anchors += slots_made_by(row)
            signs += slots_made_by(row) if row[2][0] == "put" else []
        anchors_by_time.append(anchors)
        signs_by_time.append(signs)
    return rows[:how_many]


def any_strokes(seed, old, how_many):
    """Strokes that name whatever slots and signs: later ones, their own, ones that nobody made."""
    rng = random.Random(seed)
    names = rng.sample([(pen, n) for pen in PENS for n in range(1, how_many + 1)], how_many)
    made_up = [name + (k,) for name in names for k in (1, 2, 3)] + [("nobody", 1, 1), old_slot(len(old) + 1)]
    signs = [old_slot(k) for k in range(1, len(old) + 1)] + made_up
    anchors = [START] * 3 + signs
    return [(name, rng.randint(1, how_many), some_act(rng, anchors, signs)) for name in names]


def jumbled(seed, rows):
    """The same rows in another order, with some of them told twice."""
    rng = random.Random(seed)
    told = list(rows) + rng.sample(rows, len(rows) // 2)
    rng.shuffle(told)
    return told


def some_of(seed, things):
    rng = random.Random(seed)
    return [thing for thing in things if rng.random() < 0.5]


def signs_of(row):
    """The names of the signs that a stroke put in or names."""
    return slots_made_by(row) if row[2][0] == "put" else list(row[2][1])


def greatest_numbers(strokes):
    return list(dict(sorted(row[0] for row in strokes)).items())


def filled_paper(old, strokes, states):
    paper = Paper(old)
    paper.fill(strokes, states, greatest_numbers(strokes), max([row[1] for row in strokes], default=0))
    return paper


def some_paper(seed, old, how_many):
    """A paper of sound strokes, about half of them waiting, the others let stand or wiped."""
    rng = random.Random(seed)
    strokes = sound_strokes(seed, old, how_many)
    return filled_paper(old, strokes, [(row[0], rng.choice(STATES)) for row in strokes])


def states_told(paper):
    return [(row[0], paper.state(row[0])) for row in paper.strokes()]


def copy_of(paper):
    other = Paper(paper.old_text())
    other.fill(paper.strokes(), states_told(paper), paper.numbers(), paper.last_time())
    return other


def names_in(paper, *states):
    return [name for name, state in states_told(paper) if state in states]


def all_told(paper):
    """Everything that a paper tells, to be held against what it tells later."""
    leaning = [paper.leaning_on(row[0]) for row in paper.strokes()]
    return (paper.old_text(), paper.strokes(), states_told(paper), leaning, paper.numbers(), paper.last_time(),
            paper.waiting(), paper.view(), paper.seats())


def some_deed(rng, paper, pen):
    length = len(paper.view())
    kind = rng.choice(("put", "strike", "dress", "move", "decide", "back")) if length else "put"
    at = rng.randint(0, max(length - 1, 0))
    to = rng.randint(at + 1, min(at + 3, length)) if length else 0
    if kind == "put":
        paper.put(pen, rng.randint(0, length), "".join(rng.choices(SIGNS, k=rng.randint(1, 3))))
    elif kind == "strike":
        paper.strike(pen, at, to)
    elif kind == "dress":
        paper.dress(pen, at, to, rng.choice(WORDS))
    elif kind == "move":
        paper.move(pen, at, to, rng.randint(0, length))
    elif kind == "decide" and paper.waiting():
        rng.choice((paper.let_stand, paper.wipe))(rng.choice(paper.waiting()))
    elif kind == "back":
        free = [name for name in paper.waiting() if paper.leaning_on(name) == []]
        if free:
            name = rng.choice(free)
            paper.take_back(name[0], name)


def worked_on(seed, paper, pens, how_many):
    rng = random.Random(seed)
    other = copy_of(paper)
    for deed in range(how_many):
        some_deed(rng, other, rng.choice(pens))
    return other


def grown_apart(seed):
    """Three papers that went on from one, each with pens of its own."""
    base = worked_on(seed, Paper("abcd\n"[:seed % 6]), ("ann", "m"), 8)
    return [worked_on(f"{seed} {pen}", base, (pen, pen + "x"), 10) for pen in ("b", "an", "zed")]
