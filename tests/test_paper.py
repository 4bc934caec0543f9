import random
import unittest

from redquill.errors import OutOfPlace
from redquill.paper import Paper
from redquill.plain import Plain
from redquill.readings import reading, seated, text_of
from redquill.strokes import START
from samples import all_told, old_slot

FAR = 10 ** 20 - 1
A, B, C, D, E, F = (old_slot(k) for k in range(1, 7))


def worked_paper():
    """One that has been put in, struck and moved: see the seats in BeginningTest."""
    paper = Paper("abcdef")
    paper.put("ann", 3, "xy")
    paper.strike("bob", 1, 2)
    paper.move("ann", 1, 3, 5)
    return paper


def signs_and_words(paper):
    return [(sign, word) for name, sign, word in paper.view()]


class BeginningTest(unittest.TestCase):
    def test_a_new_paper(self):
        for old in ("", "a", "ab\n"):
            paper = Paper(old)
            rows = [(old_slot(k), sign, "") for k, sign in enumerate(old, start=1)]
            self.assertEqual(paper.old_text(), old)
            self.assertEqual(paper.strokes(), [])
            self.assertEqual(paper.numbers(), [])
            self.assertEqual(paper.last_time(), 0)
            self.assertEqual(paper.waiting(), [])
            self.assertEqual(paper.view(), rows)
            self.assertEqual(paper.seats(), [row[:1] + row for row in rows])

    def test_the_worked_paper(self):
        paper = worked_paper()
        self.assertEqual(paper.old_text(), "abcdef")
        self.assertEqual(paper.strokes(), [
            (("ann", 1), 1, ("put", C, "xy")), (("bob", 1), 2, ("strike", (B,))),
            (("ann", 2), 3, ("move", (C, ("ann", 1, 1)), D)),
        ])
        self.assertEqual(paper.seats(), [
            (A, A, "a", ""), (("ann", 1, 2), ("ann", 1, 2), "y", ""), (D, D, "d", ""), (("ann", 2, 1), C, "c", ""),
            (("ann", 2, 2), ("ann", 1, 1), "x", ""), (E, E, "e", ""), (F, F, "f", ""),
        ])
        self.assertEqual(paper.view(), [seat[1:] for seat in paper.seats()])
        self.assertEqual(paper.waiting(), [("ann", 1), ("bob", 1), ("ann", 2)])

    def test_two_papers_share_nothing(self):
        one, other = Paper("ab"), Paper("ab")
        kept = all_told(other)
        one.put("ann", 1, "x")
        one.wipe(("ann", 1))
        self.assertEqual(all_told(other), kept)


class DeedTest(unittest.TestCase):
    def check(self, deed, act, text):
        """The deed of a pen new to the worked paper, and of one that has two strokes on it."""
        for pen, number in (("cyd", 1), ("ann", 3)):
            paper = worked_paper()
            ahead = paper.strokes()
            name = (pen, number)
            self.assertEqual(deed(paper, pen), name)
            self.assertEqual(paper.strokes(), ahead + [(name, 4, act)])
            self.assertEqual(text_of(paper.view()), text)
            self.assertEqual(paper.state(name), "waits")
            self.assertEqual(paper.waiting()[-1], name)
            self.assertEqual(paper.last_time(), 4)
            self.assertEqual(paper.numbers(), sorted(dict([("ann", 2), ("bob", 1), name]).items()))

    def test_put(self):
        for at, anchor, text in ((0, START, "PQaydcxef"), (1, A, "aPQydcxef"), (2, ("ann", 1, 2), "ayPQdcxef"),
                                 (3, D, "aydPQcxef"), (4, ("ann", 2, 1), "aydcPQxef"), (5, ("ann", 2, 2), "aydcxPQef"),
                                 (6, E, "aydcxePQf"), (7, F, "aydcxefPQ")):
            self.check(lambda paper, pen: paper.put(pen, at, "PQ"), ("put", anchor, "PQ"), text)

    def test_part(self):
        for at, anchor, text in ((0, START, "\naydcxef"), (4, ("ann", 2, 1), "aydc\nxef"), (7, F, "aydcxef\n")):
            self.check(lambda paper, pen: paper.part(pen, at), ("put", anchor, "\n"), text)

    def test_strike(self):
        for at, to, names, text in ((0, 1, (A,), "ydcxef"), (1, 5, (("ann", 1, 2), D, C, ("ann", 1, 1)), "aef"),
                                    (4, 5, (("ann", 1, 1),), "aydcef"), (6, 7, (F,), "aydcxe"),
                                    (0, 7, (A, ("ann", 1, 2), D, C, ("ann", 1, 1), E, F), "")):
            self.check(lambda paper, pen: paper.strike(pen, at, to), ("strike", names), text)

    def test_dress(self):
        for at, to, names in ((0, 1, (A,)), (1, 5, (("ann", 1, 2), D, C, ("ann", 1, 1))), (6, 7, (F,)),
                              (0, 7, (A, ("ann", 1, 2), D, C, ("ann", 1, 1), E, F))):
            for word in ("bold", ""):
                self.check(lambda paper, pen: paper.dress(pen, at, to, word), ("dress", names, word), "aydcxef")
            self.check(lambda paper, pen: paper.dress(pen, at, to), ("dress", names, ""), "aydcxef")

    def test_move_to_a_goal_ahead_of_its_stretch(self):
        moved = (("ann", 1, 1), E)
        for goal, anchor, text in ((0, START, "xeaydcf"), (1, A, "axeydcf"), (3, D, "aydxecf"),
                                   (4, ("ann", 2, 1), "aydcxef")):
            self.check(lambda paper, pen: paper.move(pen, 4, 6, goal), ("move", moved, anchor), text)

    def test_move_to_a_goal_within_its_stretch(self):
        moved = (D, C, ("ann", 1, 1))
        for goal, anchor in ((2, ("ann", 1, 2)), (3, D), (4, ("ann", 2, 1)), (5, ("ann", 2, 2))):
            self.check(lambda paper, pen: paper.move(pen, 2, 5, goal), ("move", moved, anchor), "aydcxef")

    def test_move_to_a_goal_behind_its_stretch(self):
        moved = (A, ("ann", 1, 2))
        for goal, anchor, text in ((2, ("ann", 1, 2), "aydcxef"), (3, D, "daycxef"), (4, ("ann", 2, 1), "dcayxef"),
                                   (5, ("ann", 2, 2), "dcxayef"), (7, F, "dcxefay")):
            self.check(lambda paper, pen: paper.move(pen, 0, 2, goal), ("move", moved, anchor), text)

    def test_move_of_the_last_and_of_all(self):
        names = (A, ("ann", 1, 2), D, C, ("ann", 1, 1), E, F)
        self.check(lambda paper, pen: paper.move(pen, 6, 7, 0), ("move", (F,), START), "faydcxe")
        for goal, anchor in ((0, START), (3, D), (7, F)):
            self.check(lambda paper, pen: paper.move(pen, 0, 7, goal), ("move", names, anchor), "aydcxef")

    def test_the_words_of_the_view(self):
        paper = worked_paper()
        paper.dress("cyd", 1, 6, "bold")
        paper.dress("bob", 3, 4, "small")
        paper.dress("cyd", 4, 5)
        paper.move("ann", 3, 6, 0)
        self.assertEqual(signs_and_words(paper), [("c", "small"), ("x", ""), ("e", "bold"), ("a", ""), ("y", "bold"),
                                                  ("d", "bold"), ("f", "")])

    def test_upon_the_old_text_without_signs(self):
        paper = Paper("")
        self.assertEqual(paper.put("ann", 0, "x"), ("ann", 1))
        self.assertEqual(paper.strike("ann", 0, 1), ("ann", 2))
        self.assertEqual(paper.part("bob", 0), ("bob", 1))
        self.assertEqual(paper.strokes(), [(("ann", 1), 1, ("put", START, "x")),
                                           (("ann", 2), 2, ("strike", (("ann", 1, 1),))),
                                           (("bob", 1), 3, ("put", START, "\n"))])
        self.assertEqual(text_of(paper.view()), "\n")

    def test_numbers_by_pen_and_times_by_paper(self):
        paper = Paper("abc")
        names = [paper.put("zed", 0, "x"), paper.dress("ann", 0, 1), paper.part("zed", 1), paper.move("bob", 0, 1, 2),
                 paper.strike("ann", 0, 1), paper.put("zed", 0, "y")]
        self.assertEqual(names, [("zed", 1), ("ann", 1), ("zed", 2), ("bob", 1), ("ann", 2), ("zed", 3)])
        self.assertEqual([row[:2] for row in paper.strokes()], [(name, k) for k, name in enumerate(names, start=1)])
        self.assertEqual(paper.numbers(), [("ann", 2), ("bob", 1), ("zed", 3)])
        self.assertEqual(paper.last_time(), 6)


class ViewTest(unittest.TestCase):
    def test_those_stand_that_are_not_wiped(self):
        paper = worked_paper()
        paper.let_stand(("bob", 1))
        self.assertEqual(text_of(paper.view()), "aydcxef")
        paper.wipe(("ann", 2))
        self.assertEqual(text_of(paper.view()), "acxydef")
        paper.wipe(("ann", 1))
        self.assertEqual(text_of(paper.view()), "acdef")

    def test_a_wiped_stroke_keeps_its_slots_in_the_row(self):
        paper = Paper("ab")
        paper.put("ann", 1, "xy")
        paper.put("bob", 2, "z")
        paper.wipe(("ann", 1))
        self.assertEqual(paper.seats(), [(A, A, "a", ""), (("bob", 1, 1), ("bob", 1, 1), "z", ""), (B, B, "b", "")])
        self.assertEqual(paper.put("cyd", 1, "v"), ("cyd", 1))
        self.assertEqual(paper.put("cyd", 3, "w"), ("cyd", 2))
        self.assertEqual([row[2] for row in paper.strokes()[2:]], [("put", A, "v"), ("put", ("bob", 1, 1), "w")])
        self.assertEqual(text_of(paper.view()), "avzwb")

    def test_a_wiped_move_a_wiped_strike_and_a_wiped_dress(self):
        paper = Paper("abcd")
        paper.move("ann", 0, 2, 4)
        paper.strike("ann", 0, 1)
        paper.dress("ann", 0, 3, "bold")
        paper.wipe(("ann", 1))
        self.assertEqual(signs_and_words(paper), [("a", "bold"), ("b", "bold"), ("d", "bold")])
        paper.wipe(("ann", 2))
        self.assertEqual(signs_and_words(paper), [("a", "bold"), ("b", "bold"), ("c", ""), ("d", "bold")])
        paper.wipe(("ann", 3))
        self.assertEqual(signs_and_words(paper), [("a", ""), ("b", ""), ("c", ""), ("d", "")])


class RefusedTest(unittest.TestCase):
    def check_refused(self, paper, deed, at):
        kept = all_told(paper)
        with self.assertRaises(OutOfPlace) as caught:
            deed(paper)
        self.assertEqual(caught.exception.at, at)
        self.assertEqual(all_told(paper), kept)

    def test_put_and_part(self):
        for paper, length in ((worked_paper(), 7), (Paper("abc"), 3), (Paper(""), 0)):
            for at in (-1, -2, -length - 1, -FAR, length + 1, length + 2, FAR):
                self.check_refused(paper, lambda p: p.put("ann", at, "x"), at)
                self.check_refused(paper, lambda p: p.part("ann", at), at)

    def check_stretch(self, deed):
        for at in (-1, -7, -FAR, 7, 8, FAR):
            for to in (-FAR, 0, 3, at, at + 1, 7, 8, FAR):
                self.check_refused(worked_paper(), lambda p: deed(p, at, to), at)
        for at in (0, 3, 6):
            for to in (at, at - 1, -1, -FAR, 8, 9, FAR):
                self.check_refused(worked_paper(), lambda p: deed(p, at, to), to)
        for at, to in ((0, 0), (0, 1), (1, 0), (-1, 1)):
            self.check_refused(Paper(""), lambda p: deed(p, at, to), at)

    def test_strike(self):
        self.check_stretch(lambda p, at, to: p.strike("ann", at, to))

    def test_dress(self):
        self.check_stretch(lambda p, at, to: p.dress("ann", at, to, "bold"))
        self.check_stretch(lambda p, at, to: p.dress("cyd", at, to))

    def test_move(self):
        for goal in (0, 3, 7, -1, 8, FAR, -FAR):
            self.check_stretch(lambda p, at, to: p.move("ann", at, to, goal))
        for at, to in ((0, 1), (2, 5), (6, 7), (0, 7)):
            for goal in (-1, -7, -FAR, 8, 9, FAR):
                self.check_refused(worked_paper(), lambda p: p.move("cyd", at, to, goal), goal)

    def test_the_numbers_are_those_of_the_view(self):
        paper = Paper("abcd")
        paper.strike("ann", 0, 2)
        self.check_refused(paper, lambda p: p.put("ann", 3, "x"), 3)
        self.check_refused(paper, lambda p: p.strike("ann", 2, 3), 2)
        self.check_refused(paper, lambda p: p.move("ann", 0, 1, 3), 3)
        paper.wipe(("ann", 1))
        self.assertEqual(paper.put("ann", 4, "xyz"), ("ann", 2))
        self.assertEqual(paper.strike("ann", 6, 7), ("ann", 3))

    def test_a_refusal_takes_no_number_and_no_time(self):
        paper = Paper("ab")
        self.check_refused(paper, lambda p: p.put("ann", 3, "x"), 3)
        self.check_refused(paper, lambda p: p.move("bob", 0, 1, 3), 3)
        self.assertEqual(paper.numbers(), [])
        self.assertEqual(paper.put("ann", 2, "x"), ("ann", 1))
        self.assertEqual(paper.last_time(), 1)


def some_deed(rng, length):
    """A deed by numbers, now and then out of place: its name, and its arguments behind the pen."""
    kind = rng.choice(("put", "put", "strike", "dress", "move", "move"))
    if kind == "put":
        return kind, (rng.randint(-1 if rng.random() < 0.1 else 0, length),
                      "".join(rng.choices("pqrs\n \\", k=rng.randint(1, 4))))
    at = rng.randint(0, max(0, length - 1))
    to = rng.randint(at if rng.random() < 0.1 else at + 1, min(length, at + 4) + (rng.random() < 0.1) + 1)
    if kind == "strike":
        return kind, (at, min(to, at + 2))
    if kind == "dress":
        return kind, (at, to) if rng.random() < 0.2 else (at, to, rng.choice(("", "bold", "small", "wide")))
    return kind, (at, to, rng.randint(0, length + (rng.random() < 0.1)))


def told_of(thing, kind, arguments):
    """What comes of a deed: the number that it was refused for, or None."""
    try:
        getattr(thing, kind)(*arguments)
    except OutOfPlace as refusal:
        return refusal.at
    return None


class PromiseTest(unittest.TestCase):
    def old_of(self, seed):
        return ("", "a", "abc\nde", "the old text\nof two rows", "abcdefghijklmnop")[seed % 5]

    def drawn_paper(self, seed, how_many):
        rng = random.Random(seed)
        paper = Paper(self.old_of(seed))
        for step in range(how_many):
            kind, arguments = some_deed(rng, len(paper.view()))
            told_of(paper, kind, (rng.choice(("ann", "bob", "zed")),) + arguments)
        return paper

    def test_deeds_make_of_a_paper_what_they_make_of_a_plain_text(self):
        for seed in range(30):
            rng = random.Random(seed)
            old = self.old_of(seed)
            paper, plain = Paper(old), Plain(old)
            for step in range(60):
                kind, arguments = some_deed(rng, len(plain.rows()))
                refused = told_of(plain, kind, arguments)
                with self.subTest(seed=seed, step=step, kind=kind, arguments=arguments):
                    self.assertEqual(told_of(paper, kind, (rng.choice(("ann", "bob", "zed")),) + arguments), refused)
                    self.assertEqual(signs_and_words(paper), plain.rows())
                if paper.waiting() and rng.random() < 0.3:
                    paper.let_stand(rng.choice(paper.waiting()))
                    self.assertEqual(signs_and_words(paper), plain.rows())

    def test_with_none_standing_it_is_the_old_text(self):
        for seed in range(30):
            paper = self.drawn_paper(seed, 50)
            old_rows = reading(paper.old_text(), [], [])
            self.assertEqual(reading(paper.old_text(), paper.strokes(), []), old_rows)
            for name in paper.waiting():
                paper.wipe(name)
            self.assertEqual(paper.view(), old_rows)

    def test_the_order_of_decisions_does_not_matter(self):
        for seed in range(30):
            rng = random.Random(seed + 1000)
            strokes = self.drawn_paper(seed, 30).strokes()
            standing = [row[0] for row in strokes if rng.random() < 0.5]
            expected = seated(self.old_of(seed), strokes, standing)
            for again in range(3):
                paper = self.drawn_paper(seed, 30)
                names = paper.waiting()
                rng.shuffle(names)
                for name in names:
                    (paper.let_stand if name in standing else paper.wipe)(name)
                self.assertEqual(paper.seats(), expected)
                self.assertEqual(paper.strokes(), strokes)

    def test_the_view_is_the_reading_of_those_not_wiped(self):
        for seed in range(30):
            rng = random.Random(seed)
            paper = self.drawn_paper(seed, 10)
            for step in range(30):
                kind, arguments = some_deed(rng, len(paper.view()))
                told_of(paper, kind, ("cyd",) + arguments)
                if paper.waiting():
                    decide = rng.choice((paper.let_stand, paper.wipe, lambda name: None))
                    decide(rng.choice(paper.waiting()))
                strokes = paper.strokes()
                standing = [row[0] for row in strokes if paper.state(row[0]) != "wiped"]
                self.assertEqual(paper.view(), reading(paper.old_text(), strokes, standing))
                self.assertEqual(paper.seats(), seated(paper.old_text(), strokes, standing))

    def test_as_many_strokes_as_are_promised(self):
        paper, plain = Paper("o" * 300), Plain("o" * 300)
        for number in range(500):
            at = 7 * number % 300
            paper.put("ann", at, "xyz") if number % 2 else paper.move("bob", at, at + 2, 299 - at)
            plain.put(at, "xyz") if number % 2 else plain.move(at, at + 2, 299 - at)
        self.assertEqual(signs_and_words(paper), plain.rows())
        self.assertEqual(paper.numbers(), [("ann", 250), ("bob", 250)])


class OwnListsTest(unittest.TestCase):
    def test_a_told_list_that_is_changed_changes_no_later_answer(self):
        paper = worked_paper()
        kept = all_told(paper)
        for tell in (paper.strokes, paper.numbers, paper.waiting, paper.view, paper.seats):
            told = tell()
            self.assertIsInstance(told, list)
            told.reverse()
            told.append(("zed", 9))
            self.assertEqual(all_told(paper), kept)
            tell().clear()
            self.assertEqual(all_told(paper), kept)
        paper.leaning_on(("ann", 1)).clear()
        self.assertEqual(all_told(paper), kept)

    def test_a_told_list_stays_as_it_was_told(self):
        paper = worked_paper()
        told = (paper.strokes(), paper.numbers(), paper.waiting(), paper.view(), paper.seats())
        kept = tuple(list(one) for one in told)
        paper.put("cyd", 0, "v")
        paper.wipe(("bob", 1))
        paper.take_back("cyd", ("cyd", 1))
        self.assertEqual(told, kept)


if __name__ == "__main__":
    unittest.main()
