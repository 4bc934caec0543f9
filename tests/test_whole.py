"""The promise over the whole, asked at the desk and held against a plain reading of what the desk writes."""

import itertools
import random
import unittest

from redquill.choices import outcome
from redquill.desk import Desk
from redquill.errors import QuillError
from redquill.plain import Plain
from redquill.readings import reading
from redquill.wire import read

PENS = ("ann", "bo", "cyd")
WORDS = ("-", "bold", "thin")
SIGNS = "xyz \\\n"


def escaped(signs):
    return "".join({"\n": "\\n", "\\": "\\\\"}.get(sign, sign) for sign in signs)


def unescaped(words):
    signs, left = "", iter(words)
    for sign in left:
        signs += {"n": "\n", "\\": "\\"}[next(left)] if sign == "\\" else sign
    return signs


class Told:
    """A paper as the desk writes it, taken apart without the package: slots and names stay as they are written."""

    def __init__(self, text):
        rows = text.split("\n")
        self.old = unescaped(rows[0][4:])
        self.states, self.acts, self.order = {}, {}, []
        for row in rows[2:]:
            if not row.startswith("pen "):
                state, name, time, kind, rest = row.split(" ", 4)
                self.states[name] = state
                self.acts[name] = (kind,) + tuple(rest.split(" ", 1))
                self.order.append(name)

    def names_in(self, *states):
        return [name for name in self.order if self.states[name] in states]

    def signs_put(self, name):
        kind, rest = self.acts[name][0], self.acts[name][1:]
        return unescaped(rest[1]) if kind == "put" else ""

    def signs_named(self, name):
        return self.acts[name][-1].split(",") if self.acts[name][0] != "put" else []

    def slots_made(self, name):
        kind = self.acts[name][0]
        many = {"put": len(self.signs_put(name)), "move": len(self.signs_named(name))}.get(kind, 0)
        return [f"{name}.{k}" for k in range(1, many + 1)]

    def row_of_slots(self):
        row = [".0.0"] + [f".0.{k}" for k in range(1, len(self.old) + 1)]
        for name in self.order:
            if self.acts[name][0] in ("put", "move"):
                at = row.index(self.acts[name][1]) + 1
                row[at:at] = self.slots_made(name)
        return row

    def plain_reading(self, standing):
        """Rows (slot, name, sign, word) of the signs that are there when just these strokes stand."""
        signs = {f".0.{k}": sign for k, sign in enumerate(self.old, 1)}
        places, worn, struck = {}, {}, set()
        for name in self.order:
            if name in standing:
                kind, named = self.acts[name][0], self.signs_named(name)
                signs.update(zip(self.slots_made(name), self.signs_put(name)))
                if kind == "strike":
                    struck.update(named)
                if kind == "dress":
                    worn.update((sign, self.acts[name][1].replace("-", "")) for sign in named)
                if kind == "move":
                    places.update(zip(named, self.slots_made(name)))
        row = self.row_of_slots()
        there = [(places.get(sign, sign), sign) for sign in signs if sign not in struck]
        there.sort(key=lambda pair: row.index(pair[0]))
        return [(slot, sign, signs[sign], worn.get(sign, "")) for slot, sign in there]

    def signs_standing(self, standing):
        return "".join(row[2] for row in self.plain_reading(standing))

    def stand_in(self, bits):
        waiting = self.names_in("waits")
        return self.names_in("stands") + [name for k, name in enumerate(waiting) if bits >> k & 1]

    def shown(self):
        before = {row[0]: row[1:3] for row in self.plain_reading(self.names_in("stands"))}
        after = {row[0]: row[1:3] for row in self.plain_reading(self.names_in("stands", "waits"))}
        return [(slot in before, slot in after) + (before.get(slot) or after[slot])
                for slot in self.row_of_slots() if slot in before or slot in after]


def told(desk, word):
    return Told(desk.say(f"write {word}"))


def some_signs(rng):
    return "".join(rng.choices(SIGNS, k=rng.randint(1, 3)))


def some_row(rng, word, pen, length, feeds):
    """A deed of a pen upon a view of so many signs and line feeds."""
    kinds = ("put", "put", "strike", "dress", "move", "move", "part", "join")
    kind = rng.choice(kinds) if length else rng.choice(("put", "part"))
    at = rng.randint(0, max(length - 1, 0))
    to = rng.randint(at + 1, min(at + 4, length)) if length else 0
    if kind == "join" and feeds:
        return f"join {word} {pen} {rng.randrange(feeds)}"
    if kind == "strike":
        return f"strike {word} {pen} {at} {to}"
    if kind == "dress":
        return f"dress {word} {pen} {at} {to} {rng.choice(WORDS)}"
    if kind == "move":
        return f"move {word} {pen} {at} {to} {rng.randint(0, length)}"
    if kind == "part":
        return f"part {word} {pen} {rng.randint(0, length)}"
    return f"put {word} {pen} {rng.randint(0, length)} {escaped(some_signs(rng))}"


def some_deed(rng, desk, word, pens):
    view = unescaped(desk.say(f"view {word}"))
    row = some_row(rng, word, rng.choice(pens), len(view), view.count("\n"))
    desk.say(row)
    return row


def plain_deed(plain, row):
    """What a row tells the desk, done to a plain text."""
    words = row.split(" ", 4)
    kind, rest = words[0], words[3:]
    if kind == "put":
        plain.put(int(rest[0]), unescaped(rest[1]))
    elif kind == "part":
        plain.put(int(rest[0]), "\n")
    elif kind == "join":
        feeds = [number for number, (sign, word) in enumerate(plain.rows()) if sign == "\n"]
        plain.strike(feeds[int(rest[0])], feeds[int(rest[0])] + 1)
    elif kind == "strike":
        plain.strike(int(rest[0]), int(rest[1]))
    else:
        last = rest[1].split(" ")
        if kind == "move":
            plain.move(int(rest[0]), int(last[0]), int(last[1]))
        else:
            plain.dress(int(rest[0]), int(last[0]), last[1].replace("-", ""))


def decide_some(rng, desk, word, how_many):
    """Strokes decided here and there, until no more than so many wait."""
    waiting = told(desk, word).names_in("waits")
    rng.shuffle(waiting)
    for name in waiting[how_many:]:
        desk.say(f"{deciding(rng.randrange(2))} {word} {name}")


def worked_desk(seed, deeds=14, waiting=5):
    rng = random.Random(seed)
    desk = Desk()
    desk.say("new p " + escaped("ab\ncde\\"[:seed % 8]))
    for deed in range(deeds):
        some_deed(rng, desk, "p", PENS)
        if rng.random() < 0.3:
            decide_some(rng, desk, "p", waiting)
    decide_some(rng, desk, "p", waiting)
    return desk


def copied(desk, word, other):
    desk.say(f"read {other}\n{desk.say(f'write {word}')}")


def deciding(stands):
    return "stand" if stands else "wipe"


def answer_of(desk, row):
    """What the desk answers, or how it refuses."""
    try:
        return desk.say(row)
    except QuillError as refusal:
        return (refusal.__class__, vars(refusal))


class ChoiceTest(unittest.TestCase):
    def setUp(self):
        self.desks = [worked_desk(seed) for seed in range(16)]

    def assertDecided(self, desk, word, expected):
        self.assertEqual(desk.say(f"view {word}"), expected)
        self.assertEqual(told(desk, word).names_in("waits"), [])

    def test_every_choice_is_the_plain_reading(self):
        for desk in self.desks:
            paper = told(desk, "p")
            self.assertEqual(desk.say("view p"), escaped(paper.signs_standing(paper.names_in("waits", "stands"))))
            for bits in range(1 << len(paper.names_in("waits"))):
                rows = paper.plain_reading(paper.stand_in(bits))
                self.assertEqual(desk.say(f"choice p {bits}"), escaped("".join(row[2] for row in rows)))
                names = [(".".join(map(str, name)), sign, word)
                         for name, sign, word in outcome(read(desk.say("write p")), bits)]
                self.assertEqual(names, [row[1:] for row in rows])

    def test_what_is_shown(self):
        marks = {(True, True): "=", (True, False): "-", (False, True): "+"}
        for desk in self.desks:
            rows = told(desk, "p").shown()
            self.assertEqual(desk.say("shown p"), "".join(marks[row[:2]] + escaped(row[3]) for row in rows))

    def test_decided_one_by_one_in_different_orders(self):
        for seed, desk in enumerate(self.desks):
            rng = random.Random(seed)
            waiting = told(desk, "p").names_in("waits")
            for bits in range(1 << len(waiting)):
                copied(desk, "p", "n")
                order = list(enumerate(waiting))
                rng.shuffle(order)
                for k, name in order:
                    self.assertEqual(desk.say(f"{deciding(bits >> k & 1)} n {name}"), "ok")
                self.assertDecided(desk, "n", desk.say(f"choice p {bits}"))

    def test_decided_by_pens_in_different_orders(self):
        for desk in self.desks:
            waiting = told(desk, "p").names_in("waits")
            for pens, stand in itertools.product(itertools.permutations(PENS), itertools.product((0, 1), repeat=3)):
                copied(desk, "p", "n")
                bits = 0
                for pen, stands in zip(pens, stand):
                    names = [name for name in waiting if name.startswith(pen + ".")]
                    bits |= sum(1 << waiting.index(name) for name in names) * stands
                    told_names = desk.say(f"{deciding(stands)} n by {pen}")
                    self.assertEqual(told_names, " ".join(names) or "-")
                self.assertDecided(desk, "n", desk.say(f"choice p {bits}"))

    def test_decided_by_stretches(self):
        for seed, desk in enumerate(self.desks):
            rng = random.Random(seed)
            for turn in range(12):
                copied(desk, "p", "n")
                paper = told(desk, "p")
                waiting = paper.names_in("waits")
                bits = 0
                while told(desk, "n").names_in("waits"):
                    now = told(desk, "n")
                    rows = now.shown()
                    at = rng.randint(0, len(rows))
                    to = rng.choice((rng.randint(0, len(rows)), len(rows) + 3))
                    signs = {row[2] for row in rows[at:to]}
                    names = [name for name in now.names_in("waits")
                             if signs & set(now.signs_named(name) or now.slots_made(name))]
                    stands = rng.random() < 0.5
                    self.assertEqual(desk.say(f"{deciding(stands)} n in {at} {to}"), " ".join(names) or "-")
                    bits |= sum(1 << waiting.index(name) for name in names) * stands
                    # A stroke all of whose signs are gone lies in no stretch.
                    if rng.random() < 0.1:
                        desk.say("wipe n all")
                self.assertDecided(desk, "n", desk.say(f"choice p {bits}"))

    def test_decided_in_part(self):
        for seed, desk in enumerate(self.desks):
            rng = random.Random(seed)
            waiting = told(desk, "p").names_in("waits")
            for bits in range(1 << len(waiting)):
                copied(desk, "p", "n")
                left = []
                for k, name in enumerate(waiting):
                    if rng.random() < 0.5:
                        desk.say(f"{deciding(bits >> k & 1)} n {name}")
                    else:
                        left.append(bits >> k & 1)
                rest = sum(bit << k for k, bit in enumerate(left))
                self.assertEqual(desk.say(f"choice n {rest}"), desk.say(f"choice p {bits}"))

    def test_all_wiped_it_is_the_old_text(self):
        for seed in range(16):
            desk = Desk()
            old = escaped("ab\ncde\\"[:seed % 8])
            desk.say(f"new p {old}")
            rng = random.Random(seed)
            for deed in range(14):
                some_deed(rng, desk, "p", PENS)
            self.assertEqual(desk.say("choice p 0"), old)
            desk.say("wipe p all")
            self.assertEqual(desk.say("view p"), old)
            self.assertTrue(all(row[2] == "" for row in read(desk.say("write p")).view()))

    def test_all_standing_it_is_what_the_same_deeds_make_of_a_plain_text(self):
        for seed in range(40):
            rng = random.Random(seed)
            desk, plain = Desk(), Plain("ab\ncde\\"[:seed % 8])
            desk.say("new p " + escaped("ab\ncde\\"[:seed % 8]))
            for deed in range(16):
                plain_deed(plain, some_deed(rng, desk, "p", PENS))
                self.assertEqual(unescaped(desk.say("view p")), "".join(sign for sign, word in plain.rows()))
                if rng.random() < 0.2:
                    desk.say(f"stand p by {rng.choice(PENS)}")
            desk.say("stand p all")
            self.assertEqual([row[1:] for row in read(desk.say("write p")).view()], plain.rows())

    def test_a_stroke_taken_back_leaves_what_was_read_with_it_wiped(self):
        taken = 0
        for desk in self.desks:
            waiting = told(desk, "p").names_in("waits")
            for name in waiting:
                copied(desk, "p", "n")
                copied(desk, "p", "w")
                if answer_of(desk, f"back n {name.split('.')[0]} {name}") == "ok":
                    taken += 1
                    desk.say(f"wipe w {name}")
                    for bits in range(1 << (len(waiting) - 1)):
                        self.assertEqual(desk.say(f"choice n {bits}"), desk.say(f"choice w {bits}"))
        self.assertGreater(taken, 20)

    def test_places_keep_their_order_as_strokes_are_added(self):
        for seed, desk in enumerate(self.desks):
            rng = random.Random(seed)
            row = told(desk, "p").row_of_slots()
            for deed in range(5):
                some_deed(rng, desk, "p", PENS)
                later = told(desk, "p").row_of_slots()
                self.assertEqual([slot for slot in later if slot in set(row)], row)
                row = later


class AgainTest(unittest.TestCase):
    def rows_for(self, rng, desk, word):
        """Rows of all sorts for a paper, good ones and such as are refused."""
        names = told(desk, word).order + ["ann.99", "zed.1", "ann.0", "x"]
        name, pen, at, to = rng.choice(names), rng.choice(PENS), rng.randint(0, 12), rng.randint(0, 12)
        return [f"put {{}} {pen} {at} x\\n", f"strike {{}} {pen} {at} {to}", f"dress {{}} {pen} {at} {to} bold",
                f"move {{}} {pen} {at} {to} {rng.randint(0, 12)}", f"part {{}} {pen} {at}", f"join {{}} {pen} {at}",
                f"back {{}} {pen} {name}", f"stand {{}} {name}", f"wipe {{}} {name}", f"stand {{}} by {pen}",
                f"wipe {{}} in {at} {to}", f"choice {{}} {rng.randint(0, 99)}", f"state {{}} {name}", "shown {}",
                f"note {{}} {pen} {at} {to} why?", f"answer {{}} {pen} {rng.choice(PENS)}.{rng.randint(1, 4)} so."]

    def test_papers_written_and_read_again_answer_alike(self):
        for seed in range(12):
            rng = random.Random(seed)
            desk = worked_desk(seed)
            copied(desk, "p", "n")
            for turn in range(40):
                row = rng.choice(self.rows_for(rng, desk, "p"))
                self.assertEqual(answer_of(desk, row.format("p")), answer_of(desk, row.format("n")))
                for word in ("view", "shown", "write", "notes"):
                    self.assertEqual(desk.say(f"{word} p"), desk.say(f"{word} n"))

    def test_what_is_refused_changes_nothing(self):
        for seed in range(12):
            rng = random.Random(seed)
            desk = worked_desk(seed)
            for turn in range(60):
                kept = [desk.say(f"{word} p") for word in ("write", "notes")]
                row = rng.choice(self.rows_for(rng, desk, "p"))
                if not isinstance(answer_of(desk, row.format("p")), str):
                    self.assertEqual([desk.say(f"{word} p") for word in ("write", "notes")], kept)


class AgainstTest(unittest.TestCase):
    def fewest(self, one, other):
        """The signs that must be put and struck: all but twice the most that can be kept."""
        most = [[0] * (len(other) + 1) for _ in range(len(one) + 1)]
        for i, j in itertools.product(range(len(one)), range(len(other))):
            kept = most[i][j] + 1 if one[i] == other[j] else 0
            most[i + 1][j + 1] = max(kept, most[i][j + 1], most[i + 1][j])
        return len(one) + len(other) - 2 * most[-1][-1]

    def test_two_texts_held_against_each_other(self):
        rng = random.Random(5)
        for turn in range(60):
            one, other = ("".join(rng.choices("ab\n\\ ", k=rng.choice((0, 1, 5, 12, 60)))) for _ in range(2))
            desk = Desk()
            desk.say("new p " + escaped(one))
            desk.say("new q " + escaped(other))
            desk.say("against n ann p q")
            paper = told(desk, "n")
            self.assertEqual(paper.names_in("waits"), paper.order)
            self.assertTrue(all(name.startswith("ann.") for name in paper.order))
            self.assertTrue(all(paper.acts[name][0] in ("put", "strike") for name in paper.order))
            signs = [len(paper.signs_put(name)) + len(paper.signs_named(name)) for name in paper.order]
            self.assertEqual(sum(signs), self.fewest(one, other))
            self.assertEqual(desk.say("choice n 0"), escaped(one))
            self.assertEqual(desk.say("view n"), escaped(other))
            copied(desk, "n", "w")
            desk.say("wipe w all")
            self.assertEqual(desk.say("view w"), escaped(one))
            desk.say("stand n all")
            self.assertEqual(desk.say("view n"), escaped(other))


class PouredTest(unittest.TestCase):
    def grown_apart(self, seed):
        """A desk with two papers that went on from one, each with pens of its own."""
        rng = random.Random(seed)
        desk = worked_desk(seed, deeds=6, waiting=3)
        copied(desk, "p", "q")
        for word, pens in (("p", ("da", "ed")), ("q", ("d", "fay"))):
            for deed in range(4):
                some_deed(rng, desk, word, pens)
            decide_some(rng, desk, word, 5)
        return desk

    def test_either_way_round(self):
        for seed in range(25):
            desk = self.grown_apart(seed)
            kept = [desk.say("write p"), desk.say("write q")]
            desk.say("pour n p q")
            desk.say("pour m q p")
            self.assertEqual(desk.say("write n"), desk.say("write m"))
            self.assertEqual(desk.say("clash p q"), desk.say("clash q p"))
            self.assertEqual([desk.say("write p"), desk.say("write q")], kept)

    def test_states_are_the_stronger_ones(self):
        strength = ("waits", "stands", "wiped")
        for seed in range(25):
            desk = self.grown_apart(seed)
            desk.say("pour n p q")
            papers = [told(desk, word) for word in ("p", "q")]
            states = {}
            for paper in papers:
                for name, state in paper.states.items():
                    states[name] = max(state, states.get(name, state), key=strength.index)
            self.assertEqual(told(desk, "n").states, states)

    def test_each_choice_among_the_one_keeps_its_reading(self):
        for seed in range(25):
            rng = random.Random(seed)
            desk = self.grown_apart(seed)
            desk.say("pour n p q")
            poured = told(desk, "n")
            paper_n = read(desk.say("write n"))
            for word in ("p", "q"):
                one = told(desk, word)
                for turn in range(12):
                    standing = [name for name in one.order if rng.random() < 0.6]
                    self.assertEqual(poured.plain_reading(standing), one.plain_reading(standing))
                    names = [(pen, int(n)) for pen, n in (name.split(".") for name in standing)]
                    rows = [(".".join(map(str, name)), sign, dress)
                            for name, sign, dress in reading(paper_n.old_text(), paper_n.strokes(), names)]
                    self.assertEqual(rows, [row[1:] for row in one.plain_reading(standing)])

    def test_every_choice_of_the_poured_paper_is_the_plain_reading(self):
        for seed in range(10):
            desk = self.grown_apart(seed)
            desk.say("pour n p q")
            decide_some(random.Random(seed), desk, "n", 6)
            poured = told(desk, "n")
            for bits in range(1 << len(poured.names_in("waits"))):
                signs = poured.signs_standing(poured.stand_in(bits))
                self.assertEqual(desk.say(f"choice n {bits}"), escaped(signs))


if __name__ == "__main__":
    unittest.main()
