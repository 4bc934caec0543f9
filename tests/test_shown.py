import random
import unittest

from redquill.paper import Paper
from redquill.readings import seated
from redquill.shown import shown, who
from redquill.slots import slots_of
from samples import all_told, copy_of, filled_paper, names_in, old_slot, signs_of, some_paper

A, B, C, D = (old_slot(k) for k in range(1, 5))


def wiped_all(paper):
    other = copy_of(paper)
    for name in other.waiting():
        other.wipe(name)
    return other


class ShownTest(unittest.TestCase):
    def test_no_strokes(self):
        self.assertEqual(shown(Paper("")), [])
        self.assertEqual(shown(Paper("a\n")), [(A, A, "a", True, True), (B, B, "\n", True, True)])

    def test_signs_that_come(self):
        paper = Paper("ab")
        paper.put("ann", 1, "xy")
        x, y = ("ann", 1, 1), ("ann", 1, 2)
        rows = [(A, A, "a", True, True), (x, x, "x", False, True), (y, y, "y", False, True), (B, B, "b", True, True)]
        self.assertEqual(shown(paper), rows)
        stood, wiped = copy_of(paper), copy_of(paper)
        stood.let_stand(("ann", 1))
        self.assertEqual(shown(stood), [row[:3] + (True, True) for row in rows])
        wiped.wipe(("ann", 1))
        self.assertEqual(shown(wiped), [rows[0], rows[3]])

    def test_signs_that_go(self):
        paper = Paper("abc")
        paper.strike("ann", 0, 2)
        rows = [(A, A, "a", True, False), (B, B, "b", True, False), (C, C, "c", True, True)]
        self.assertEqual(shown(paper), rows)
        stood, wiped = copy_of(paper), copy_of(paper)
        stood.let_stand(("ann", 1))
        self.assertEqual(shown(stood), rows[2:])
        wiped.wipe(("ann", 1))
        self.assertEqual(shown(wiped), [row[:3] + (True, True) for row in rows])

    def test_signs_that_move_have_two_rows(self):
        paper = Paper("abc")
        paper.move("ann", 0, 1, 2)
        moved = ("ann", 1, 1)
        rows = [(A, A, "a", True, False), (B, B, "b", True, True), (moved, A, "a", False, True),
                (C, C, "c", True, True)]
        self.assertEqual(shown(paper), rows)
        stood, wiped = copy_of(paper), copy_of(paper)
        stood.let_stand(("ann", 1))
        self.assertEqual(shown(stood), [rows[1], (moved, A, "a", True, True), rows[3]])
        wiped.wipe(("ann", 1))
        self.assertEqual(shown(wiped), [(A, A, "a", True, True), rows[1], rows[3]])

    def test_a_move_to_where_it_stands_has_two_rows_too(self):
        paper = Paper("ab")
        paper.move("ann", 0, 1, 0)
        self.assertEqual(shown(paper), [(("ann", 1, 1), A, "a", False, True), (A, A, "a", True, False),
                                        (B, B, "b", True, True)])

    def test_signs_that_are_dressed_stay(self):
        paper = Paper("ab")
        paper.dress("ann", 0, 1, "bold")
        for deed in (lambda: None, lambda: paper.let_stand(("ann", 1))):
            deed()
            self.assertEqual(shown(paper), [(A, A, "a", True, True), (B, B, "b", True, True)])

    def test_moved_twice(self):
        paper = Paper("abc")
        paper.move("ann", 0, 1, 3)    # b c a
        paper.move("bob", 2, 3, 1)    # b a c
        first, second = ("ann", 1, 1), ("bob", 1, 1)
        self.assertEqual(shown(paper), [(A, A, "a", True, False), (B, B, "b", True, True),
                                        (second, A, "a", False, True), (C, C, "c", True, True)])
        paper.let_stand(("ann", 1))
        self.assertEqual(shown(paper), [(B, B, "b", True, True), (second, A, "a", False, True),
                                        (C, C, "c", True, True), (first, A, "a", True, False)])
        paper.wipe(("bob", 1))
        self.assertEqual(shown(paper), [(B, B, "b", True, True), (C, C, "c", True, True), (first, A, "a", True, True)])

    def test_a_later_move_that_stands_hides_a_waiting_one(self):
        paper = Paper("abc")
        paper.move("ann", 0, 1, 3)
        paper.move("bob", 2, 3, 1)
        paper.let_stand(("bob", 1))
        self.assertEqual(shown(paper), [(B, B, "b", True, True), (("bob", 1, 1), A, "a", True, True),
                                        (C, C, "c", True, True)])

    def test_a_sign_that_comes_and_moves_has_one_row(self):
        paper = Paper("ab")
        paper.put("ann", 0, "x")
        paper.move("bob", 0, 1, 3)
        x = ("ann", 1, 1)
        self.assertEqual(shown(paper)[2:], [(("bob", 1, 1), x, "x", False, True)])
        paper.let_stand(("ann", 1))
        self.assertEqual(shown(paper), [(x, x, "x", True, False), (A, A, "a", True, True), (B, B, "b", True, True),
                                        (("bob", 1, 1), x, "x", False, True)])

    def test_a_sign_that_comes_and_goes_has_no_row(self):
        paper = Paper("a")
        paper.put("ann", 1, "xy")
        paper.strike("bob", 1, 2)
        x, y = ("ann", 1, 1), ("ann", 1, 2)
        self.assertEqual(shown(paper), [(A, A, "a", True, True), (y, y, "y", False, True)])
        paper.let_stand(("ann", 1))
        self.assertEqual(shown(paper), [(A, A, "a", True, True), (x, x, "x", True, False), (y, y, "y", True, True)])
        paper.let_stand(("bob", 1))
        self.assertEqual(shown(paper), [(A, A, "a", True, True), (y, y, "y", True, True)])

    def test_a_sign_that_moves_and_goes_has_its_row_before_alone(self):
        paper = Paper("ab")
        paper.move("ann", 0, 1, 2)
        paper.strike("bob", 1, 2)
        self.assertEqual(shown(paper), [(A, A, "a", True, False), (B, B, "b", True, True)])
        paper.let_stand(("ann", 1))
        self.assertEqual(shown(paper), [(B, B, "b", True, True), (("ann", 1, 1), A, "a", True, False)])

    def test_decided_strokes_among_waiting_ones(self):
        paper = Paper("abcd")
        paper.put("ann", 1, "x")      # a x b c d
        paper.strike("bob", 2, 3)     # a x c d
        paper.move("ann", 2, 3, 0)    # c a x d
        paper.put("bob", 4, "y")      # c a x d y
        paper.strike("cyd", 1, 2)     # c x d y
        paper.let_stand(("ann", 1))
        paper.wipe(("bob", 1))
        paper.let_stand(("cyd", 1))
        x, y, moved = ("ann", 1, 1), ("bob", 2, 1), ("ann", 2, 1)
        self.assertEqual(shown(paper), [
            (moved, C, "c", False, True), (x, x, "x", True, True), (B, B, "b", True, True), (C, C, "c", True, False),
            (D, D, "d", True, True), (y, y, "y", False, True)])

    def test_before_is_all_wiped_and_after_is_the_view(self):
        for seed in range(80):
            old = "abcd\n"[:seed % 6]
            paper = some_paper(seed, old, 14)
            rows = shown(paper)
            before = [row[:3] for row in rows if row[3]]
            after = [row[:3] for row in rows if row[4]]
            self.assertEqual(before, [seat[:3] for seat in wiped_all(paper).seats()])
            self.assertEqual(after, [seat[:3] for seat in paper.seats()])
            self.assertEqual([row[1:] for row in before], [row[:2] for row in wiped_all(paper).view()])
            self.assertEqual([row[1:] for row in after], [row[:2] for row in paper.view()])

    def test_one_row_for_each_slot_in_the_row_of_slots(self):
        for seed in range(80):
            old = "abcd\n"[:seed % 6]
            paper = some_paper(seed, old, 14)
            strokes = paper.strokes()
            seats = (seated(old, strokes, names_in(paper, "stands"))
                     + seated(old, strokes, names_in(paper, "waits", "stands")))
            taken = [seat[0] for seat in seats]
            rows = shown(paper)
            self.assertEqual([row[0] for row in rows], [slot for slot in slots_of(old, strokes) if slot in taken])
            for row in rows:
                self.assertIsInstance(row, tuple)
                self.assertEqual(len(row), 5)
                self.assertIs(row[3], row[:3] in [seat[:3] for seat in wiped_all(paper).seats()])
                self.assertIs(row[4], row[:3] in [seat[:3] for seat in paper.seats()])
                self.assertTrue(row[3] or row[4])

    def test_nothing_is_changed_and_the_list_is_the_askers_own(self):
        for paper in (Paper("ab"), some_paper(5, "abcd", 14)):
            kept = all_told(paper)
            told = shown(paper)
            rows = list(told)
            self.assertIsInstance(told, list)
            told.clear()
            self.assertEqual(shown(paper), rows)
            self.assertEqual(all_told(paper), kept)


class WhoTest(unittest.TestCase):
    def test_nobody(self):
        self.assertEqual(who(Paper("")), [])
        self.assertEqual(who(Paper("abc")), [0, 0, 0])

    def test_each_kind_of_stroke(self):
        paper = Paper("abcd")
        paper.put("ann", 1, "x")            # a x b c d
        self.assertEqual(who(paper), [0, 1, 0, 0, 0])
        paper.dress("bob", 2, 4, "bold")    # b and c
        self.assertEqual(who(paper), [0, 1, 2, 2, 0])
        paper.move("cyd", 3, 5, 0)          # c d a x b
        self.assertEqual(who(paper), [6, 4, 0, 1, 2])
        paper.strike("dot", 1, 3)           # c x b
        self.assertEqual(who(paper), [6, 1, 2])

    def test_several_strokes_of_one_pen_count_once(self):
        paper = Paper("ab")
        paper.put("ann", 0, "x")
        paper.dress("ann", 0, 2, "bold")
        paper.dress("ann", 0, 1, "small")
        paper.move("ann", 0, 1, 3)
        paper.dress("bob", 2, 3, "bold")
        self.assertEqual(who(paper), [1, 0, 3])
        paper.wipe(("ann", 2))
        self.assertEqual(who(paper), [0, 0, 3])
        paper.let_stand(("ann", 1))
        self.assertEqual(who(paper), [0, 0, 3])
        paper.let_stand(("ann", 3))
        self.assertEqual(who(paper), [0, 0, 3])
        paper.let_stand(("ann", 4))
        self.assertEqual(who(paper), [0, 0, 2])

    def test_a_strike_that_waits_leaves_no_row_and_one_that_is_wiped_counts_for_none(self):
        paper = Paper("ab")
        paper.strike("ann", 0, 1)
        self.assertEqual(who(paper), [0])
        paper.wipe(("ann", 1))
        self.assertEqual(who(paper), [0, 0])

    def test_pens_are_numbered_by_all_strokes_sorted(self):
        paper = Paper("abc")
        paper.dress("zed", 0, 1, "bold")
        self.assertEqual(who(paper), [1, 0, 0])
        paper.dress("b", 1, 2, "bold")
        self.assertEqual(who(paper), [2, 1, 0])
        paper.dress("ab", 2, 3, "bold")
        self.assertEqual(who(paper), [4, 2, 1])
        paper.dress("a", 0, 3, "bold")
        self.assertEqual(who(paper), [9, 5, 3])
        paper.wipe(("a", 1))
        self.assertEqual(who(paper), [8, 4, 2])
        paper.let_stand(("ab", 1))
        self.assertEqual(who(paper), [8, 4, 0])
        paper.take_back("b", ("b", 1))
        self.assertEqual(who(paper), [4, 0, 0])

    def test_a_pen_whose_strokes_are_all_taken_back_has_no_number(self):
        paper = Paper("ab")
        paper.put("ann", 0, "x")
        paper.put("bob", 0, "y")
        self.assertEqual(who(paper), [2, 1, 0, 0])
        paper.take_back("ann", ("ann", 1))
        self.assertEqual(paper.numbers(), [("ann", 1), ("bob", 1)])
        self.assertEqual(who(paper), [1, 0, 0])

    def test_anchors_and_slots_do_not_count(self):
        paper = Paper("ab")
        paper.move("ann", 0, 1, 2)     # b a
        paper.put("bob", 2, "x")       # behind a, in the slot of the move
        paper.put("cyd", 1, "y")       # behind b
        self.assertEqual(who(paper), [0, 4, 1, 2])

    def test_more_pens_than_bits_of_a_word(self):
        letters = "abcdefghijklmnopqrstuvwxyz"
        pens = [one + other for one in letters[:4] for other in letters]
        strokes = [((pen, 1), k, ("dress", (A,), "bold")) for k, pen in enumerate(reversed(pens), start=1)]
        strokes += [((pens[-1], 2), 500, ("put", A, "x"))]
        paper = filled_paper("ab", strokes, [(row[0], "waits") for row in strokes])
        self.assertEqual(who(paper), [2 ** len(pens) - 1, 2 ** (len(pens) - 1), 0])

    def test_made_up_papers(self):
        for seed in range(80):
            paper = some_paper(seed, "abcd\n"[:seed % 6], 16)
            pens = sorted(set(row[0][0] for row in paper.strokes()))
            waiting = [row for row in paper.strokes() if paper.state(row[0]) == "waits"]
            told = who(paper)
            self.assertEqual(len(told), len(paper.view()))
            for number, row in zip(told, paper.view()):
                at_work = set(stroke[0][0] for stroke in waiting if row[0] in signs_of(stroke))
                self.assertEqual(number, sum(2 ** pens.index(pen) for pen in at_work))

    def test_all_decided_nobody_is_at_work(self):
        for seed in range(10):
            rng = random.Random(seed)
            paper = some_paper(seed, "abcd", 14)
            for name in paper.waiting():
                rng.choice((paper.let_stand, paper.wipe))(name)
            self.assertEqual(who(paper), [0] * len(paper.view()))

    def test_nothing_is_changed_and_the_list_is_the_askers_own(self):
        paper = some_paper(7, "abcd", 14)
        kept = all_told(paper)
        told = who(paper)
        numbers = list(told)
        self.assertIsInstance(told, list)
        told.clear()
        self.assertEqual(who(paper), numbers)
        self.assertEqual(all_told(paper), kept)


if __name__ == "__main__":
    unittest.main()
