import copy
import random
import unittest

from redquill.errors import Decided, Leaned, NoNote, NotYours, OutOfPlace, QuillError, TooDeep
from redquill.notes import Margin
from redquill.paper import Paper
from redquill.readings import text_of
from samples import all_told, copy_of, some_deed, worked_on


def refusal_of(deed, *arguments):
    """The kind and the fields of what refuses a deed, or None where nothing does."""
    try:
        deed(*arguments)
    except QuillError as refusal:
        return (refusal.__class__, vars(refusal))
    return None


def margin_told(margin):
    return (margin.told(), [margin.on(at) for at in range(len(margin.paper.view()))])


def numbers_told(margin):
    return [note[1] for note in margin.told()]


def chain(margin, pen, how_deep):
    """The name of what lies so deep, in a row of answers to a new note on the first sign."""
    name = margin.note(pen, 0, 1, "deep 1")
    for depth in range(2, how_deep + 1):
        name = margin.answer(pen, name, f"deep {depth}")
    return name


class NoteTest(unittest.TestCase):
    def test_a_note_on_each_stretch_of_the_view(self):
        paper = Paper("abc")
        paper.put("ann", 1, "xy")
        margin = Margin(paper)
        stretches = [(at, to) for at in range(5) for to in range(at + 1, 6)]
        for m, (at, to) in enumerate(stretches, 1):
            self.assertEqual(margin.note("ann", at, to, f"note {m}"), ("ann", m))
        self.assertEqual(numbers_told(margin), [list(range(at, to)) for at, to in stretches])
        self.assertEqual([note[2] for note in margin.told()], [f"note {m}" for m in range(1, 16)])

    def test_numbers_are_refused_as_a_strike_is(self):
        for old in ("", "a", "abc"):
            paper = Paper(old)
            paper.put("ann", 0, "x")
            paper.strike("bob", 0, 1)
            for at in range(-3, 6):
                for to in range(-3, 6):
                    margin = Margin(paper)
                    asked = refusal_of(margin.note, "ann", at, to, "why?")
                    self.assertEqual(asked, refusal_of(copy_of(paper).strike, "ann", at, to))
                    self.assertEqual(margin.told() == [], asked is not None)

    def test_the_refusals_by_hand(self):
        margin = Margin(Paper("abc"))
        for at, to, field in ((-1, 2, -1), (3, 4, 3), (3, 0, 3), (0, 0, 0), (1, 1, 1), (2, 1, 1), (0, 4, 4),
                              (0, -1, -1)):
            with self.assertRaises(OutOfPlace) as caught:
                margin.note("ann", at, to, "why?")
            self.assertEqual(caught.exception.at, field)
        self.assertEqual(margin.told(), [])
        self.assertEqual(margin.note("ann", 0, 3, "why?"), ("ann", 1))

    def test_words_are_told_as_they_are(self):
        margin = Margin(Paper("a"))
        for words in ("x", " ", "  two  blanks ", "\\n", "{a | b}", "-", "w" * 40, "w" * 41):
            name = margin.note("ann", 0, 1, words)
            margin.answer("bob", name, words)
            self.assertEqual(margin.told()[-1][2], words)
            self.assertEqual(margin.told()[-1][3][0][1], words)

    def test_a_paper_is_not_changed_by_notes(self):
        paper = worked_on(1, Paper("abc"), ("ann", "bob"), 12)
        kept = all_told(paper)
        margin = Margin(paper)
        margin.note("ann", 0, 1, "why?")
        margin.answer("bob", ("ann", 1), "so.")
        margin.told()
        margin.on(0)
        self.assertEqual(all_told(paper), kept)


class NamesTest(unittest.TestCase):
    def test_notes_and_answers_are_counted_together_by_pens(self):
        margin = Margin(Paper("abc"))
        self.assertEqual(margin.note("ann", 0, 1, "one"), ("ann", 1))
        self.assertEqual(margin.note("bob", 0, 1, "two"), ("bob", 1))
        self.assertEqual(margin.answer("ann", ("bob", 1), "three"), ("ann", 2))
        self.assertEqual(margin.answer("bob", ("ann", 2), "four"), ("bob", 2))
        self.assertEqual(margin.note("ann", 1, 2, "five"), ("ann", 3))
        self.assertEqual(margin.note("an", 1, 2, "six"), ("an", 1))
        self.assertEqual(margin.answer("ann", ("ann", 3), "seven"), ("ann", 4))

    def test_the_strokes_of_a_pen_are_not_counted(self):
        paper = Paper("abc")
        paper.put("ann", 0, "x")
        margin = Margin(paper)
        self.assertEqual(margin.note("ann", 0, 1, "one"), ("ann", 1))
        self.assertEqual(paper.put("ann", 0, "y"), ("ann", 2))

    def test_each_margin_for_itself(self):
        paper = Paper("abc")
        one, other = Margin(paper), Margin(paper)
        one.note("ann", 0, 1, "one")
        self.assertEqual(other.told(), [])
        self.assertEqual(other.on(0), [])
        self.assertEqual(other.note("ann", 1, 2, "other"), ("ann", 1))
        self.assertEqual(one.note("ann", 1, 2, "two"), ("ann", 2))
        with self.assertRaises(NoNote):
            other.answer("bob", ("ann", 2), "so.")
        self.assertEqual([note[2] for note in one.told()], ["one", "two"])
        self.assertEqual([note[2] for note in other.told()], ["other"])

    def test_what_is_refused_takes_no_name(self):
        margin = Margin(Paper("abc"))
        deepest = chain(margin, "ann", 10)
        kept = margin_told(margin)
        self.assertEqual(refusal_of(margin.note, "ann", 3, 4, "x"), (OutOfPlace, {"at": 3}))
        self.assertEqual(refusal_of(margin.answer, "ann", ("ann", 11), "x"), (NoNote, {"name": ("ann", 11)}))
        self.assertEqual(refusal_of(margin.answer, "ann", deepest, "x"), (TooDeep, {"name": deepest}))
        self.assertEqual(refusal_of(margin.answer, "new", deepest, "x"), (TooDeep, {"name": deepest}))
        self.assertEqual(margin_told(margin), kept)
        self.assertEqual(margin.note("ann", 0, 1, "x"), ("ann", 11))
        self.assertEqual(margin.note("new", 0, 1, "x"), ("new", 1))


class StaysTest(unittest.TestCase):
    def setUp(self):
        self.paper = Paper("abcde")
        self.margin = Margin(self.paper)
        self.margin.note("ann", 1, 3, "bc")

    def noted(self):
        """The signs on which the note is, as they are told."""
        text = text_of(self.paper.view())
        return "".join(text[number] for number in self.margin.told()[0][1])

    def told(self):
        return self.margin.told()[0][1]

    def test_signs_put_around_and_within(self):
        self.paper.put("bob", 0, "xy")
        self.assertEqual(self.told(), [3, 4])
        self.paper.put("bob", 4, "z")
        self.assertEqual(self.told(), [3, 5])
        self.paper.put("bob", 8, "w")
        self.assertEqual(self.told(), [3, 5])
        self.assertEqual(self.noted(), "bc")

    def test_signs_struck_and_back_again(self):
        self.paper.strike("bob", 0, 2)
        self.assertEqual(self.told(), [0])
        self.paper.strike("bob", 0, 1)
        self.assertEqual(self.told(), [])
        self.paper.wipe(("bob", 1))
        self.assertEqual(self.told(), [1])
        self.paper.take_back("bob", ("bob", 2))
        self.assertEqual(self.told(), [1, 2])
        self.assertEqual(self.noted(), "bc")

    def test_a_strike_that_stands(self):
        self.paper.let_stand(self.paper.strike("bob", 0, 5))
        self.assertEqual(self.told(), [])
        self.assertEqual(self.margin.told(), [(("ann", 1), [], "bc", [])])
        self.assertEqual(self.margin.answer("bob", ("ann", 1), "gone"), ("bob", 1))
        self.paper.put("bob", 0, "bc")
        self.assertEqual(self.told(), [])

    def test_signs_moved_are_told_by_rising_numbers(self):
        self.paper.move("bob", 1, 2, 5)
        self.assertEqual(text_of(self.paper.view()), "acdeb")
        self.assertEqual(self.told(), [1, 4])
        self.paper.move("bob", 1, 2, 5)
        self.assertEqual(text_of(self.paper.view()), "adebc")
        self.assertEqual(self.told(), [3, 4])
        self.paper.move("bob", 4, 5, 0)
        self.assertEqual(text_of(self.paper.view()), "cadeb")
        self.assertEqual(self.told(), [0, 4])
        self.paper.wipe(("bob", 1))
        self.paper.wipe(("bob", 3))
        self.assertEqual(text_of(self.paper.view()), "abdec")
        self.assertEqual(self.told(), [1, 4])

    def test_signs_that_a_stroke_put_in(self):
        name = self.paper.put("bob", 5, "xyz")
        self.margin.note("ann", 4, 7, "exy")
        self.paper.move("cyd", 6, 7, 0)
        self.assertEqual(text_of(self.paper.view()), "yabcdexz")
        self.assertEqual(numbers_told(self.margin), [[2, 3], [0, 5, 6]])
        self.paper.wipe(name)
        self.assertEqual(numbers_told(self.margin), [[1, 2], [4]])

    def test_signs_whose_put_is_taken_back(self):
        name = self.paper.put("bob", 0, "xy")
        self.margin.note("ann", 0, 2, "xy")
        self.paper.take_back("bob", name)
        self.assertEqual(numbers_told(self.margin), [[1, 2], []])
        self.paper.put("bob", 0, "xy")
        self.assertEqual(numbers_told(self.margin), [[3, 4], []])

    def test_signs_dressed(self):
        self.paper.dress("bob", 0, 5, "bold")
        self.assertEqual(self.told(), [1, 2])

    def test_a_paper_filled_anew(self):
        strokes = [(("zed", 1), 1, ("move", (("", 0, 3),), ("", 0, 0)))]
        self.paper.fill(strokes, [(("zed", 1), "waits")], [("zed", 1)], 1)
        self.assertEqual(text_of(self.paper.view()), "cabde")
        self.assertEqual(self.told(), [0, 2])


class AnswersTest(unittest.TestCase):
    def test_answers_in_the_order_in_which_they_were_given(self):
        margin = Margin(Paper("ab"))
        margin.note("ann", 0, 2, "why?")
        margin.answer("zed", ("ann", 1), "first")
        margin.answer("bob", ("ann", 1), "second")
        margin.answer("cyd", ("zed", 1), "to the first")
        margin.answer("ann", ("ann", 1), "third")
        margin.answer("bob", ("zed", 1), "to it again")
        margin.answer("ann", ("bob", 2), "to that")
        self.assertEqual(margin.told(), [
            (("ann", 1), [0, 1], "why?", [
                (("zed", 1), "first", [
                    (("cyd", 1), "to the first", []),
                    (("bob", 2), "to it again", [(("ann", 3), "to that", [])]),
                ]),
                (("bob", 1), "second", []),
                (("ann", 2), "third", []),
            ]),
        ])

    def test_answers_to_several_notes(self):
        margin = Margin(Paper("ab"))
        margin.note("ann", 1, 2, "one")
        margin.note("ann", 0, 1, "two")
        margin.answer("bob", ("ann", 2), "to two")
        margin.answer("bob", ("ann", 1), "to one")
        self.assertEqual(margin.told(), [(("ann", 1), [1], "one", [(("bob", 2), "to one", [])]),
                                         (("ann", 2), [0], "two", [(("bob", 1), "to two", [])])])

    def test_nothing_has_the_name(self):
        margin = Margin(Paper("ab"))
        for name in (("ann", 1), ("ann", 0), ("", 0)):
            with self.assertRaises(NoNote) as caught:
                margin.answer("bob", name, "so.")
            self.assertEqual(caught.exception.name, name)
        margin.note("ann", 0, 1, "why?")
        for name in (("ann", 2), ("bob", 1), ("an", 1)):
            with self.assertRaises(NoNote) as caught:
                margin.answer("bob", name, "so.")
            self.assertEqual(caught.exception.name, name)
        self.assertEqual(margin.told(), [(("ann", 1), [0], "why?", [])])

    def test_a_stroke_is_no_note(self):
        paper = Paper("ab")
        paper.put("ann", 0, "x")
        with self.assertRaises(NoNote):
            Margin(paper).answer("bob", ("ann", 1), "so.")

    def test_ten_deep_and_no_deeper(self):
        margin = Margin(Paper("ab"))
        so_far = 0
        for depth in range(2, 11):
            so_far += depth
            name = chain(margin, "ann", depth)
            self.assertEqual(name, ("ann", so_far))
        with self.assertRaises(TooDeep) as caught:
            margin.answer("bob", name, "deep 11")
        self.assertEqual(caught.exception.name, name)
        above = (name[0], name[1] - 1)
        self.assertEqual(margin.answer("bob", above, "deep 10 too"), ("bob", 1))
        with self.assertRaises(TooDeep) as caught:
            margin.answer("ann", ("bob", 1), "deep 11")
        self.assertEqual(caught.exception.name, ("bob", 1))
        told = margin.told()[-1]
        for depth in range(2, 10):
            told = told[-1][0]
            self.assertEqual(told[1], f"deep {depth}")
        self.assertEqual([answer[1] for answer in told[2]], ["deep 10", "deep 10 too"])


class ToldTest(unittest.TestCase):
    def test_notes_in_the_order_in_which_they_were_laid(self):
        margin = Margin(Paper("abc"))
        self.assertEqual(margin.told(), [])
        margin.note("zed", 2, 3, "first")
        margin.note("ann", 0, 3, "second")
        margin.note("zed", 0, 1, "third")
        margin.note("ann", 0, 1, "fourth")
        self.assertEqual(margin.told(), [(("zed", 1), [2], "first", []), (("ann", 1), [0, 1, 2], "second", []),
                                         (("zed", 2), [0], "third", []), (("ann", 2), [0], "fourth", [])])

    def test_lists_told_are_the_askers_own(self):
        margin = Margin(Paper("abc"))
        margin.note("ann", 0, 2, "why?")
        margin.answer("bob", ("ann", 1), "so.")
        margin.answer("cyd", ("bob", 1), "no")
        kept = copy.deepcopy(margin.told())
        told = margin.told()
        told[0][3][0][2].append((("zed", 1), "x", []))
        told[0][3][0][2][0][2].clear()
        told[0][3].reverse()
        told[0][3].append((("zed", 1), "x", []))
        told[0][1].append(2)
        told.append(told[0])
        self.assertEqual(margin.told(), kept)
        on = margin.on(0)
        on.clear()
        self.assertEqual(margin.on(0), [("ann", 1)])
        self.assertEqual(margin.on(2), [])

    def test_what_was_told_is_not_changed_later(self):
        paper = Paper("abc")
        margin = Margin(paper)
        margin.note("ann", 0, 2, "why?")
        margin.answer("bob", ("ann", 1), "so.")
        told, on = margin.told(), margin.on(0)
        margin.answer("bob", ("ann", 1), "again")
        margin.answer("bob", ("bob", 1), "and again")
        margin.note("ann", 0, 1, "here too")
        paper.put("ann", 0, "x")
        self.assertEqual(told, [(("ann", 1), [0, 1], "why?", [(("bob", 1), "so.", [])])])
        self.assertEqual(on, [("ann", 1)])


class OnTest(unittest.TestCase):
    def test_notes_on_a_sign(self):
        paper = Paper("abc")
        margin = Margin(paper)
        margin.note("zed", 1, 3, "one")
        margin.note("ann", 1, 2, "two")
        margin.note("bob", 0, 1, "three")
        margin.answer("cyd", ("bob", 1), "an answer is not among them")
        margin.note("ann", 1, 2, "four")
        self.assertEqual(margin.on(0), [("bob", 1)])
        self.assertEqual(margin.on(1), [("zed", 1), ("ann", 1), ("ann", 2)])
        self.assertEqual(margin.on(2), [("zed", 1)])
        paper.put("ann", 2, "x")
        paper.move("ann", 3, 4, 0)
        self.assertEqual(text_of(paper.view()), "cabx")
        told = [margin.on(at) for at in range(4)]
        self.assertEqual(told, [[("zed", 1)], [("bob", 1)], [("zed", 1), ("ann", 1), ("ann", 2)], []])

    def test_numbers_that_no_sign_has(self):
        paper = Paper("abc")
        paper.strike("ann", 0, 1)
        margin = Margin(paper)
        margin.note("ann", 0, 2, "why?")
        for at in (-3, -2, -1, 2, 3, 10 ** 12):
            with self.assertRaises(OutOfPlace) as caught:
                margin.on(at)
            self.assertEqual(caught.exception.at, at)
        with self.assertRaises(OutOfPlace) as caught:
            Margin(Paper("")).on(0)
        self.assertEqual(caught.exception.at, 0)

    def test_strokes_are_decided_as_if_there_were_no_notes(self):
        for seed in range(20):
            paper = worked_on(seed, Paper("abc"), ("ann", "bob"), 10)
            bare = copy_of(paper)
            margin = Margin(paper)
            for at in range(len(paper.view())):
                margin.answer("ann", margin.note("ann", at, at + 1, "why?"), "so.")
            for row in paper.strokes():
                for pen in ("ann", "bob"):
                    self.assertEqual(refusal_of(paper.take_back, pen, row[0]), refusal_of(bare.take_back, pen, row[0]))
                self.assertEqual(all_told(paper), all_told(bare))
            for number, name in enumerate(paper.waiting()):
                for deeds in ((paper.let_stand, bare.let_stand), (paper.wipe, bare.wipe))[::(-1) ** number]:
                    self.assertEqual(refusal_of(deeds[0], name), refusal_of(deeds[1], name))
                self.assertEqual(all_told(paper), all_told(bare))

    def test_refusals_of_the_paper_stay_as_they_are(self):
        paper = Paper("abc")
        margin = Margin(paper)
        name = paper.put("ann", 0, "x")
        margin.note("bob", 0, 1, "keep it")
        self.assertEqual(refusal_of(paper.take_back, "bob", name), (NotYours, {"stroke": name}))
        paper.dress("bob", 0, 1, "bold")
        self.assertEqual(refusal_of(paper.take_back, "ann", name), (Leaned, {"leaning": [("bob", 1)]}))
        paper.take_back("bob", ("bob", 1))
        paper.take_back("ann", name)
        self.assertEqual(margin.told(), [(("bob", 1), [], "keep it", [])])
        paper.wipe(paper.put("ann", 0, "y"))
        self.assertEqual(refusal_of(paper.let_stand, ("ann", 2)), (Decided, {"stroke": ("ann", 2)}))


class MadeUpTest(unittest.TestCase):
    def test_margins_against_notes_kept_by_the_names_of_their_signs(self):
        for seed in range(30):
            rng = random.Random(seed)
            paper = Paper("abcd\n"[:seed % 6])
            margin = Margin(paper)
            laid = []
            for deed in range(25):
                view = paper.view()
                if view and rng.random() < 0.4:
                    at = rng.randrange(len(view))
                    to = rng.randint(at + 1, len(view))
                    name = margin.note(rng.choice(("ann", "bob")), at, to, f"note {deed}")
                    laid.append((name, [row[0] for row in view[at:to]], f"note {deed}"))
                else:
                    some_deed(rng, paper, rng.choice(("ann", "bob", "cyd")))
                signs = [row[0] for row in paper.view()]
                told = [(name, sorted(signs.index(sign) for sign in names if sign in signs), words, [])
                        for name, names, words in laid]
                self.assertEqual(margin.told(), told)
                for at, sign in enumerate(signs):
                    self.assertEqual(margin.on(at), [name for name, names, words in laid if sign in names])


if __name__ == "__main__":
    unittest.main()
