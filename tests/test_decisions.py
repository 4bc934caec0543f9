import itertools
import random
import unittest

from redquill.errors import Decided, Leaned, NoStroke, NotYours
from redquill.paper import Paper
from redquill.readings import reading, text_of
from redquill.strokes import START, in_order, stroke_of
from samples import all_told, greatest_numbers, jumbled, old_slot, sound_strokes

A, B, C = (old_slot(k) for k in range(1, 4))


class RefusalsTest(unittest.TestCase):
    def check_refused(self, paper, refusal, name, deed):
        kept = all_told(paper)
        with self.assertRaises(refusal) as caught:
            deed()
        self.assertEqual(caught.exception.stroke, name)
        self.assertEqual(all_told(paper), kept)

    def check_leaned(self, paper, pen, name, leaning):
        kept = all_told(paper)
        with self.assertRaises(Leaned) as caught:
            paper.take_back(pen, name)
        self.assertEqual(caught.exception.leaning, leaning)
        self.assertIsInstance(caught.exception.leaning, list)
        caught.exception.leaning.clear()
        self.assertEqual(all_told(paper), kept)


def three_strokes():
    paper = Paper("abc")
    paper.put("zed", 1, "xy")
    paper.strike("ann", 0, 1)
    paper.dress("zed", 3, 4, "bold")
    return paper


class StateTest(RefusalsTest):
    def test_each_state(self):
        paper = three_strokes()
        names = [("zed", 1), ("ann", 1), ("zed", 2)]
        self.assertEqual([paper.state(name) for name in names], ["waits", "waits", "waits"])
        paper.let_stand(("ann", 1))
        self.assertEqual([paper.state(name) for name in names], ["waits", "stands", "waits"])
        paper.wipe(("zed", 1))
        self.assertEqual([paper.state(name) for name in names], ["wiped", "stands", "waits"])
        paper.let_stand(("zed", 2))
        self.assertEqual([paper.state(name) for name in names], ["wiped", "stands", "stands"])

    def test_deciding_keeps_the_strokes_the_numbers_and_the_time(self):
        paper = three_strokes()
        kept = (paper.strokes(), paper.numbers(), paper.last_time())
        paper.wipe(("zed", 2))
        paper.let_stand(("zed", 1))
        self.assertEqual((paper.strokes(), paper.numbers(), paper.last_time()), kept)
        self.assertEqual(paper.dress("zed", 0, 1), ("zed", 3))

    def test_letting_stand_leaves_the_view(self):
        paper = three_strokes()
        kept = paper.seats()
        for name in (("zed", 2), ("zed", 1), ("ann", 1)):
            paper.let_stand(name)
            self.assertEqual(paper.seats(), kept)

    def test_wiping_what_others_lean_on_changes_no_other_stroke(self):
        paper = Paper("ab")
        paper.put("ann", 1, "xy")
        paper.dress("bob", 1, 2, "bold")
        paper.put("bob", 2, "z")
        paper.wipe(("ann", 1))
        self.assertEqual([paper.state(("bob", n)) for n in (1, 2)], ["waits", "waits"])
        self.assertEqual(text_of(paper.view()), "azb")

    def test_waiting_in_the_order(self):
        paper = three_strokes()
        paper.put("bob", 0, "v")
        self.assertEqual(paper.waiting(), [("zed", 1), ("ann", 1), ("zed", 2), ("bob", 1)])
        paper.wipe(("ann", 1))
        self.assertEqual(paper.waiting(), [("zed", 1), ("zed", 2), ("bob", 1)])
        paper.let_stand(("zed", 1))
        self.assertEqual(paper.waiting(), [("zed", 2), ("bob", 1)])
        paper.take_back("zed", ("zed", 2))
        self.assertEqual(paper.waiting(), [("bob", 1)])
        paper.wipe(("bob", 1))
        self.assertEqual(paper.waiting(), [])

    def test_decided_twice(self):
        for first, second in itertools.product(("let_stand", "wipe"), repeat=2):
            for name in (("zed", 1), ("ann", 1), ("zed", 2)):
                paper = three_strokes()
                getattr(paper, first)(name)
                self.check_refused(paper, Decided, name, lambda: getattr(paper, second)(name))

    def test_names_that_none_bears(self):
        paper = three_strokes()
        paper.put("cyd", 0, "w")
        paper.take_back("cyd", ("cyd", 1))
        for name in (("zed", 3), ("ann", 2), ("ann", 0), ("bob", 1), ("cyd", 1), ("", 0)):
            for deed in (paper.state, paper.let_stand, paper.wipe, paper.leaning_on):
                self.check_refused(paper, NoStroke, name, lambda: deed(name))
            for pen in ("ann", "bob", "cyd", name[0]):
                self.check_refused(paper, NoStroke, name, lambda: paper.take_back(pen, name))
        self.check_refused(Paper("a"), NoStroke, ("ann", 1), lambda: Paper("a").state(("ann", 1)))


class LeaningTest(RefusalsTest):
    def leaned_paper(self):
        paper = Paper("abc")
        paper.put("ann", 1, "xy")        # a x y b c
        paper.move("bob", 2, 4, 0)       # y b a x c
        paper.put("zed", 1, "p")         # y p b a x c, behind a slot of bob's move
        paper.dress("ann", 0, 2, "bold")  # y and p
        paper.move("ann", 3, 4, 5)       # y p b x a c, behind the slot of x
        paper.strike("bob", 5, 6)        # c
        paper.put("bob", 5, "q")         # y p b x a q, behind the slot that ann's move made
        return paper

    def test_leaning_on_in_the_order(self):
        paper = self.leaned_paper()
        self.assertEqual(paper.leaning_on(("ann", 1)), [("bob", 1), ("ann", 2), ("ann", 3)])
        self.assertEqual(paper.leaning_on(("bob", 1)), [("zed", 1)])
        self.assertEqual(paper.leaning_on(("zed", 1)), [("ann", 2)])
        self.assertEqual(paper.leaning_on(("ann", 2)), [])
        self.assertEqual(paper.leaning_on(("ann", 3)), [("bob", 3)])
        self.assertEqual(paper.leaning_on(("bob", 2)), [])
        self.assertEqual(paper.leaning_on(("bob", 3)), [])

    def test_in_whatever_state(self):
        for states in itertools.product((None, "let_stand", "wipe"), repeat=3):
            paper = self.leaned_paper()
            for name, deed in zip((("bob", 1), ("ann", 2), ("ann", 3)), states):
                if deed is not None:
                    getattr(paper, deed)(name)
            self.assertEqual(paper.leaning_on(("ann", 1)), [("bob", 1), ("ann", 2), ("ann", 3)])
            self.check_leaned(paper, "ann", ("ann", 1), [("bob", 1), ("ann", 2), ("ann", 3)])

    def test_of_a_decided_one(self):
        for deed in ("let_stand", "wipe"):
            paper = self.leaned_paper()
            getattr(paper, deed)(("ann", 1))
            self.assertEqual(paper.leaning_on(("ann", 1)), [("bob", 1), ("ann", 2), ("ann", 3)])

    def test_one_that_was_taken_back_leans_no_more(self):
        paper = self.leaned_paper()
        paper.take_back("ann", ("ann", 2))
        self.assertEqual(paper.leaning_on(("ann", 1)), [("bob", 1), ("ann", 3)])
        self.assertEqual(paper.leaning_on(("zed", 1)), [])


class TakenBackTest(RefusalsTest):
    def test_off_the_strokes_the_waiting_and_the_view(self):
        paper = three_strokes()
        paper.take_back("ann", ("ann", 1))
        self.assertEqual(paper.strokes(), [(("zed", 1), 1, ("put", A, "xy")), (("zed", 2), 3, ("dress", (C,), "bold"))])
        self.assertEqual(paper.waiting(), [("zed", 1), ("zed", 2)])
        self.assertEqual(text_of(paper.view()), "axybc")
        paper.take_back("zed", ("zed", 2))
        paper.take_back("zed", ("zed", 1))
        self.assertEqual((paper.strokes(), paper.waiting()), ([], []))
        self.assertEqual(paper.view(), reading("abc", [], []))

    def test_its_number_and_its_time_stay_used(self):
        paper = Paper("abc")
        paper.put("ann", 0, "x")
        paper.put("bob", 0, "y")
        paper.take_back("bob", ("bob", 1))
        self.assertEqual(paper.numbers(), [("ann", 1), ("bob", 1)])
        self.assertEqual(paper.last_time(), 2)
        self.assertEqual(paper.put("bob", 0, "z"), ("bob", 2))
        self.assertEqual(paper.strokes()[-1], (("bob", 2), 3, ("put", START, "z")))
        paper.take_back("bob", ("bob", 2))
        paper.take_back("ann", ("ann", 1))
        self.assertEqual(paper.numbers(), [("ann", 1), ("bob", 2)])
        self.assertEqual(paper.last_time(), 3)
        self.assertEqual(paper.strike("ann", 0, 1), ("ann", 2))
        self.assertEqual(paper.strokes(), [(("ann", 2), 4, ("strike", (A,)))])

    def test_its_slots_are_in_no_row_then(self):
        paper = Paper("ab")
        paper.move("ann", 0, 1, 2)
        paper.take_back("ann", ("ann", 1))
        self.assertEqual(paper.seats(), [(A, A, "a", ""), (B, B, "b", "")])
        self.check_refused(paper, NoStroke, ("ann", 1), lambda: paper.take_back("ann", ("ann", 1)))

    def test_another_pens(self):
        paper = three_strokes()
        self.check_refused(paper, NotYours, ("ann", 1), lambda: paper.take_back("zed", ("ann", 1)))
        self.check_refused(paper, NotYours, ("zed", 2), lambda: paper.take_back("nobody", ("zed", 2)))

    def test_a_decided_one(self):
        for deed in ("let_stand", "wipe"):
            paper = three_strokes()
            getattr(paper, deed)(("ann", 1))
            self.check_refused(paper, Decided, ("ann", 1), lambda: paper.take_back("ann", ("ann", 1)))

    def test_the_first_refusal_that_is_due(self):
        paper = Paper("ab")
        paper.put("ann", 1, "x")
        paper.strike("bob", 1, 2)
        self.check_refused(paper, NoStroke, ("ann", 2), lambda: paper.take_back("bob", ("ann", 2)))
        self.check_refused(paper, NotYours, ("ann", 1), lambda: paper.take_back("bob", ("ann", 1)))
        self.check_leaned(paper, "ann", ("ann", 1), [("bob", 1)])
        paper.let_stand(("ann", 1))
        self.check_refused(paper, NotYours, ("ann", 1), lambda: paper.take_back("bob", ("ann", 1)))
        self.check_refused(paper, Decided, ("ann", 1), lambda: paper.take_back("ann", ("ann", 1)))
        paper.wipe(("bob", 1))
        self.check_refused(paper, NotYours, ("bob", 1), lambda: paper.take_back("ann", ("bob", 1)))

    def test_free_again_once_those_that_leaned_are_off(self):
        paper = Paper("ab")
        paper.put("ann", 1, "x")
        paper.strike("bob", 1, 2)
        paper.dress("ann", 0, 2, "bold")
        self.check_leaned(paper, "ann", ("ann", 1), [("bob", 1)])
        paper.take_back("bob", ("bob", 1))
        paper.take_back("ann", ("ann", 1))
        self.assertEqual(paper.strokes(), [(("ann", 2), 3, ("dress", (A, B), "bold"))])

    def test_each_choice_of_the_others_reads_as_with_it_not_standing(self):
        for seed in range(25):
            rng = random.Random(seed)
            strokes = in_order(sound_strokes(seed, "abcd", 12))
            names = [row[0] for row in strokes]
            paper = Paper("abcd")
            paper.fill(strokes, [(name, "waits") for name in names], greatest_numbers(strokes), strokes[-1][1])
            free = [name for name in names if paper.leaning_on(name) == []]
            gone = rng.choice(free)
            paper.take_back(gone[0], gone)
            self.assertEqual(paper.strokes(), [row for row in strokes if row[0] != gone])
            for choice in range(20):
                standing = [name for name in names if name != gone and rng.random() < 0.6]
                self.assertEqual(reading("abcd", paper.strokes(), standing), reading("abcd", strokes, standing))


class FilledTest(RefusalsTest):
    def deeds_paper(self):
        paper = Paper("abcdef")
        paper.put("zed", 3, "xy")
        paper.strike("bob", 1, 2)
        paper.move("ann", 1, 3, 5)
        paper.dress("bob", 2, 5, "bold")
        paper.put("gone", 0, "v")
        paper.part("zed", 4)
        paper.put("ann", 7, "w")
        paper.take_back("gone", ("gone", 1))
        paper.take_back("ann", ("ann", 2))
        paper.let_stand(("bob", 1))
        paper.wipe(("zed", 1))
        return paper

    def check_alike(self, one, other):
        self.assertEqual(all_told(one), all_told(other))

    def test_as_one_that_came_to_the_same_by_deeds(self):
        for seed in range(30):
            rng = random.Random(seed)
            made = self.deeds_paper()
            states = [(name, made.state(name)) for name in (row[0] for row in made.strokes())]
            numbers = made.numbers()
            rng.shuffle(states)
            rng.shuffle(numbers)
            filled = Paper("abcdef")
            filled.fill(jumbled(seed, made.strokes()), states, numbers, made.last_time())
            self.check_alike(filled, made)
            self.assertEqual(filled.numbers(), [("ann", 2), ("bob", 2), ("gone", 1), ("zed", 2)])
            self.assertEqual(filled.last_time(), 7)
            for paper in (filled, made):
                self.assertEqual(paper.put("gone", 1, "p"), ("gone", 2))
                self.assertEqual(paper.move("ann", 0, 2, 4), ("ann", 3))
                self.assertEqual(paper.strike("new", 2, 3), ("new", 1))
                self.assertEqual([row[1] for row in paper.strokes()][-3:], [8, 9, 10])
                paper.wipe(("bob", 2))
                self.check_refused(paper, Decided, ("zed", 1), lambda: paper.let_stand(("zed", 1)))
                self.check_refused(paper, Decided, ("bob", 1), lambda: paper.wipe(("bob", 1)))
                self.check_refused(paper, NoStroke, ("gone", 1), lambda: paper.state(("gone", 1)))
            self.check_alike(filled, made)

    def test_it_bears_just_these_from_then_on_upon_its_own_old_text(self):
        paper = self.deeds_paper()
        paper.fill([(("ivy", 3), 4, ("strike", (B,)))], [(("ivy", 3), "waits")], [("ivy", 5)], 9)
        self.assertEqual(paper.old_text(), "abcdef")
        self.assertEqual(paper.strokes(), [(("ivy", 3), 4, ("strike", (B,)))])
        self.assertEqual(paper.numbers(), [("ivy", 5)])
        self.assertEqual(paper.last_time(), 9)
        self.assertEqual(paper.waiting(), [("ivy", 3)])
        self.assertEqual(text_of(paper.view()), "acdef")
        for name in (("zed", 1), ("bob", 1), ("ann", 1), ("ivy", 5)):
            self.check_refused(paper, NoStroke, name, lambda: paper.state(name))
        self.assertEqual(paper.put("ann", 0, "x"), ("ann", 1))
        self.assertEqual(paper.put("ivy", 0, "y"), ("ivy", 6))
        self.assertEqual([row[:2] for row in paper.strokes()], [(("ivy", 3), 4), (("ann", 1), 10), (("ivy", 6), 11)])

    def test_filled_with_nothing(self):
        paper = self.deeds_paper()
        paper.fill([], [], [], 0)
        self.check_alike(paper, Paper("abcdef"))
        self.assertEqual(paper.put("zed", 0, "x"), ("zed", 1))
        paper.fill([], [], [("zed", 4), ("ann", 2)], 20)
        self.assertEqual((paper.strokes(), paper.numbers(), paper.last_time()), ([], [("ann", 2), ("zed", 4)], 20))
        self.assertEqual(paper.put("zed", 0, "x"), ("zed", 5))
        self.assertEqual(paper.last_time(), 21)

    def test_times_that_are_alike_and_each_state(self):
        strokes = [(("bob", 2), 1, ("put", START, "x")), (("ann", 7), 1, ("put", START, "y")),
                   (("ann", 3), 1, ("dress", (A,), "bold")), (("cyd", 1), 2, ("strike", (("ann", 7, 1), C)))]
        numbers = [("cyd", 1), ("bob", 4), ("ann", 8)]
        order = [("ann", 3), ("ann", 7), ("bob", 2), ("cyd", 1)]
        for states in itertools.product(("waits", "stands", "wiped"), repeat=4):
            paper = Paper("abc")
            paper.fill(strokes, list(zip(reversed(order), states)), numbers, 2)
            by_name = dict(zip(reversed(order), states))
            self.assertEqual([row[0] for row in paper.strokes()], order)
            self.assertEqual([paper.state(name) for name in order], [by_name[name] for name in order])
            self.assertEqual(paper.waiting(), [name for name in order if by_name[name] == "waits"])
            standing = [name for name in order if by_name[name] != "wiped"]
            self.assertEqual(paper.view(), reading("abc", strokes, standing))
            for name in order:
                for deed in (paper.let_stand, paper.wipe):
                    if by_name[name] != "waits":
                        self.check_refused(paper, Decided, name, lambda: deed(name))

    def test_leaning_among_strokes_filled_in(self):
        for seed in range(20):
            strokes = sound_strokes(seed, "abcd", 20)
            paper = Paper("abcd")
            states = [(row[0], ("waits", "stands", "wiped")[k % 3]) for k, row in enumerate(strokes)]
            paper.fill(jumbled(seed, strokes), states[::-1], greatest_numbers(strokes), strokes[-1][1])
            ordered = paper.strokes()
            for row in ordered:
                leaning = [other[0] for other in ordered if row[0] in stroke_of(other).leans()]
                self.assertEqual(paper.leaning_on(row[0]), leaning)

    def test_the_lists_handed_in_stay_the_askers_own(self):
        strokes = [(("bob", 1), 2, ("strike", (B,))), (("ann", 1), 1, ("put", A, "x")),
                   (("bob", 1), 2, ("strike", (B,)))]
        states = [(("bob", 1), "stands"), (("ann", 1), "waits")]
        numbers = [("bob", 1), ("ann", 3)]
        kept = (list(strokes), list(states), list(numbers))
        paper = Paper("abc")
        paper.fill(strokes, states, numbers, 5)
        told = all_told(paper)
        self.assertEqual((strokes, states, numbers), kept)
        for handed in (strokes, states, numbers):
            handed.reverse()
            self.assertEqual(all_told(paper), told)
            handed.clear()
            self.assertEqual(all_told(paper), told)

    def test_deeds_behind_leave_the_lists_handed_in(self):
        strokes = [(("ann", 1), 1, ("put", A, "x"))]
        states = [(("ann", 1), "waits")]
        numbers = [("ann", 3)]
        kept = (list(strokes), list(states), list(numbers))
        paper, other = Paper("abc"), Paper("abc")
        paper.fill(strokes, states, numbers, 5)
        other.fill(strokes, states, numbers, 5)
        told = all_told(other)
        paper.put("ann", 0, "y")
        paper.let_stand(("ann", 1))
        paper.take_back("ann", ("ann", 4))
        self.assertEqual((strokes, states, numbers), kept)
        self.assertEqual(all_told(other), told)


if __name__ == "__main__":
    unittest.main()
