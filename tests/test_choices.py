import itertools
import random
import unittest

from redquill.choices import by_pen, in_stretch, let_stand_all, outcome, wipe_all
from redquill.paper import Paper
from redquill.readings import reading, text_of
from redquill.shown import shown
from redquill.strokes import START
from samples import all_told, copy_of, filled_paper, names_in, old_slot, signs_of, some_paper, states_told

FAR = 10 ** 20 - 1
A, B, C = (old_slot(k) for k in range(1, 4))


def four_strokes():
    paper = Paper("abc")
    paper.put("cyd", 1, "xy")          # a x y b c
    paper.strike("bob", 3, 4)          # a x y c
    paper.dress("ann", 1, 2, "bold")   # x
    paper.move("bob", 3, 4, 0)         # c a x y
    return paper


def bits_of(paper, names):
    return sum(1 << k for k, name in enumerate(paper.waiting()) if name in names)


class OutcomeTest(unittest.TestCase):
    def check_texts(self, paper, texts):
        self.assertEqual([text_of(outcome(paper, bits)) for bits in range(len(texts))], texts)

    def test_each_choice_among_four(self):
        self.check_texts(four_strokes(), [
            "abc", "axybc", "ac", "axyc", "abc", "axybc", "ac", "axyc",
            "cab", "caxyb", "ca", "caxy", "cab", "caxyb", "ca", "caxy"])

    def test_rows_of_an_outcome(self):
        x, y = ("cyd", 1, 1), ("cyd", 1, 2)
        paper = four_strokes()
        self.assertEqual(outcome(paper, 0), [(A, "a", ""), (B, "b", ""), (C, "c", "")])
        self.assertEqual(outcome(paper, 7), [(A, "a", ""), (x, "x", "bold"), (y, "y", ""), (C, "c", "")])
        self.assertEqual(outcome(paper, 11), [(C, "c", ""), (A, "a", ""), (x, "x", ""), (y, "y", "")])

    def test_only_waiting_strokes_are_numbered(self):
        paper = four_strokes()
        paper.wipe(("cyd", 1))
        self.check_texts(paper, ["abc", "ac", "abc", "ac", "cab", "ca", "cab", "ca"])
        paper.let_stand(("bob", 1))
        self.check_texts(paper, ["ac", "ac", "ca", "ca"])
        paper.wipe(("ann", 1))
        self.check_texts(paper, ["ac", "ca"])
        paper.let_stand(("bob", 2))
        self.check_texts(paper, ["ca"])

    def test_what_stands_already_stands_in_each(self):
        paper = four_strokes()
        paper.let_stand(("cyd", 1))
        self.check_texts(paper, ["axybc", "axyc", "axybc", "axyc", "caxyb", "caxy", "caxyb", "caxy"])

    def test_numbered_in_the_order_where_times_are_alike(self):
        strokes = [(("zed", 1), 1, ("put", START, "z")), (("bob", 2), 2, ("put", START, "q")),
                   (("bob", 1), 2, ("put", START, "p")), (("ann", 9), 2, ("put", START, "n"))]
        paper = filled_paper("", strokes, [(row[0], "waits") for row in strokes])
        self.assertEqual([text_of(outcome(paper, 1 << k)) for k in range(5)], ["z", "n", "p", "q", ""])
        self.assertEqual(text_of(outcome(paper, 15)), "qpnz")

    def test_papers_with_nothing_waiting(self):
        for bits in (0, 1, 2, FAR, 1 << 4000):
            self.assertEqual(outcome(Paper(""), bits), [])
            self.assertEqual(text_of(outcome(Paper("ab"), bits)), "ab")
        paper = four_strokes()
        let_stand_all(paper, by_pen("bob"))
        wipe_all(paper)
        for bits in (0, 1, 2, 3, FAR, 1 << 4000):
            self.assertEqual(text_of(outcome(paper, bits)), "ca")
            self.assertEqual(outcome(paper, bits), paper.view())

    def test_all_bits_are_the_view(self):
        for seed in range(40):
            paper = some_paper(seed, "abcd\n"[:seed % 6], 14)
            every = (1 << len(paper.waiting())) - 1
            self.assertEqual(outcome(paper, every), paper.view())
            self.assertEqual(outcome(paper, (1 << 5000) - 1), paper.view())

    def test_bits_beyond_the_last_are_not_looked_at(self):
        paper = four_strokes()
        for bits in range(16):
            told = outcome(paper, bits)
            for beyond in (16, 48, 1 << 64, 1 << 501, (1 << 9000) + (1 << 70), ((1 << 20000) - 1) << 4):
                self.assertEqual(outcome(paper, bits + beyond), told)

    def test_readings_of_some_choices(self):
        for seed in range(60):
            rng = random.Random(seed)
            old = "abcd\n"[:seed % 6]
            paper = some_paper(seed, old, 12)
            waiting, standing = names_in(paper, "waits"), names_in(paper, "stands")
            for k, name in enumerate(waiting):
                self.assertEqual(outcome(paper, 1 << k), reading(old, paper.strokes(), standing + [name]))
            self.assertEqual(outcome(paper, 0), reading(old, paper.strokes(), standing))
            for bits in [rng.getrandbits(len(waiting) + 2) for choice in range(15)]:
                chosen = [name for k, name in enumerate(waiting) if (bits >> k) % 2 == 1]
                self.assertEqual(outcome(paper, bits), reading(old, paper.strokes(), standing + chosen))

    def test_a_great_many_waiting(self):
        paper = Paper("ab")
        strokes = [(("ann", n), n, ("put", START, "xyz"[n % 3])) for n in range(1, 201)]
        paper.fill(strokes, [(row[0], "waits") for row in strokes], [("ann", 200)], 200)
        for k in (0, 1, 63, 64, 65, 100, 198, 199):
            self.assertEqual(outcome(paper, 1 << k)[0][0], ("ann", k + 1, 1))
            self.assertEqual(len(outcome(paper, 1 << k)), 3)
        self.assertEqual(text_of(outcome(paper, 1 << 200)), "ab")
        self.assertEqual(outcome(paper, (1 << 200) - 1), paper.view())

    def test_nothing_is_decided_or_changed(self):
        for paper in (four_strokes(), some_paper(3, "abcd", 12), Paper("")):
            kept = all_told(paper)
            for bits in (0, 1, 5, 15, 1 << 300):
                told = outcome(paper, bits)
                self.assertEqual(all_told(paper), kept)
                self.assertEqual(outcome(paper, bits), told)

    def test_the_list_told_is_the_askers_own(self):
        paper = four_strokes()
        kept = all_told(paper)
        for bits in (0, 7, 15):
            told = outcome(paper, bits)
            self.assertIsInstance(told, list)
            rows = list(told)
            told.clear()
            self.assertEqual(outcome(paper, bits), rows)
        self.assertEqual(all_told(paper), kept)


class Asked:
    """A function that picks by names, and keeps what it was handed and what the paper told then."""

    def __init__(self, paper, names):
        self.paper = paper
        self.names = names
        self.handed = []
        self.states = []

    def __call__(self, row):
        self.handed.append(row)
        self.states.append(states_told(self.paper))
        return row[0] in self.names


class ManyTest(unittest.TestCase):
    def test_all(self):
        for deed, state in ((let_stand_all, "stands"), (wipe_all, "wiped")):
            paper = four_strokes()
            names = [("cyd", 1), ("bob", 1), ("ann", 1), ("bob", 2)]
            self.assertEqual(deed(paper), names)
            self.assertEqual(states_told(paper), [(name, state) for name in names])
            self.assertEqual(paper.waiting(), [])
            self.assertEqual(deed(paper), [])

    def test_none_is_all(self):
        for deed, text in ((let_stand_all, "caxy"), (wipe_all, "abc")):
            paper = four_strokes()
            self.assertEqual(deed(paper, None), [("cyd", 1), ("bob", 1), ("ann", 1), ("bob", 2)])
            self.assertEqual(text_of(paper.view()), text)

    def test_papers_with_nothing_waiting(self):
        for deed, other in itertools.product((let_stand_all, wipe_all), repeat=2):
            self.assertEqual(deed(Paper("ab")), [])
            paper = four_strokes()
            other(paper)
            kept = all_told(paper)
            self.assertEqual(deed(paper), [])
            self.assertEqual(deed(paper, by_pen("bob")), [])
            self.assertEqual(all_told(paper), kept)

    def test_decided_ones_keep_their_states(self):
        paper = four_strokes()
        paper.wipe(("bob", 2))
        self.assertEqual(let_stand_all(paper), [("cyd", 1), ("bob", 1), ("ann", 1)])
        self.assertEqual(paper.state(("bob", 2)), "wiped")
        paper = four_strokes()
        paper.let_stand(("bob", 1))
        self.assertEqual(wipe_all(paper), [("cyd", 1), ("ann", 1), ("bob", 2)])
        self.assertEqual(paper.state(("bob", 1)), "stands")

    def test_those_that_a_function_picks(self):
        for deed, state in ((let_stand_all, "stands"), (wipe_all, "wiped")):
            paper = four_strokes()
            self.assertEqual(deed(paper, lambda row: row[2][0] in ("dress", "put")), [("cyd", 1), ("ann", 1)])
            self.assertEqual(states_told(paper), [
                (("cyd", 1), state), (("bob", 1), "waits"), (("ann", 1), state), (("bob", 2), "waits")])
            self.assertEqual(deed(paper, lambda row: False), [])
            self.assertEqual(paper.waiting(), [("bob", 1), ("bob", 2)])
            self.assertEqual(deed(paper, lambda row: True), [("bob", 1), ("bob", 2)])
            self.assertEqual(names_in(paper, state), [("cyd", 1), ("bob", 1), ("ann", 1), ("bob", 2)])

    def test_what_the_function_is_handed(self):
        for seed in range(40):
            for deed, state in ((let_stand_all, "stands"), (wipe_all, "wiped")):
                paper = some_paper(seed, "abcd", 14)
                waiting = names_in(paper, "waits")
                ahead = states_told(paper)
                asked = Asked(paper, random.Random(seed).sample(waiting, len(waiting) // 2))
                told = deed(paper, asked)
                self.assertEqual(asked.handed, [row for row in paper.strokes() if row[0] in waiting])
                self.assertEqual(asked.states, [ahead] * len(waiting))
                self.assertEqual(told, [name for name in waiting if name in asked.names])
                self.assertEqual(states_told(paper), [
                    (name, state if name in asked.names else kept) for name, kept in ahead])

    def test_only_states_are_changed(self):
        for seed, deed in itertools.product(range(10), (let_stand_all, wipe_all)):
            paper = some_paper(seed, "abcd", 12)
            kept = (paper.old_text(), paper.strokes(), paper.numbers(), paper.last_time())
            deed(paper, by_pen("ab"))
            deed(paper)
            self.assertEqual((paper.old_text(), paper.strokes(), paper.numbers(), paper.last_time()), kept)

    def test_the_list_told_is_the_askers_own(self):
        for deed in (let_stand_all, wipe_all):
            paper = four_strokes()
            told = deed(paper, by_pen("bob"))
            self.assertIsInstance(told, list)
            kept = all_told(paper)
            told.clear()
            self.assertEqual(all_told(paper), kept)

    def test_a_function_that_fails_decides_nothing(self):
        def failing(row):
            if row[0] == ("bob", 2):
                raise KeyError(row[0])
            return True

        for deed in (let_stand_all, wipe_all):
            paper = four_strokes()
            kept = all_told(paper)
            with self.assertRaises(KeyError):
                deed(paper, failing)
            self.assertEqual(all_told(paper), kept)


class WhicheverWayTest(unittest.TestCase):
    def one_by_one(self, paper, stand, seed):
        names = paper.waiting()
        random.Random(seed).shuffle(names)
        for name in names:
            if name in stand:
                paper.let_stand(name)
            else:
                paper.wipe(name)

    def by_pens(self, paper, stand, seed):
        pens = sorted(set(row[0][0] for row in paper.strokes()))
        random.Random(seed).shuffle(pens)
        for pen in pens:
            of_pen = by_pen(pen)
            wipe_all(paper, lambda row: of_pen(row) and row[0] not in stand)
            let_stand_all(paper, of_pen)

    def by_stretches(self, paper, stand, seed):
        cut = random.Random(seed).randint(0, len(shown(paper)))
        for start, end in ((cut, FAR), (-FAR, cut)):
            within = in_stretch(paper, start, end)
            let_stand_all(paper, lambda row: within(row) and row[0] in stand)
            wipe_all(paper, within)
        self.rest_wiped_first(paper, stand, seed)

    def picked_to_stand_first(self, paper, stand, seed):
        let_stand_all(paper, lambda row: row[0] in stand)
        wipe_all(paper)

    def rest_wiped_first(self, paper, stand, seed):
        wipe_all(paper, lambda row: row[0] not in stand)
        let_stand_all(paper)

    def test_the_view_behind_is_the_outcome_ahead(self):
        ways = (self.one_by_one, self.by_pens, self.by_stretches, self.picked_to_stand_first, self.rest_wiped_first)
        for seed in range(60):
            rng = random.Random(seed)
            paper = some_paper(seed, "abcd\n"[:seed % 6], 12)
            stand = [name for name in paper.waiting() if rng.random() < 0.5]
            ahead = outcome(paper, bits_of(paper, stand))
            behind = [(name, "stands" if name in stand else "wiped" if state == "waits" else state)
                      for name, state in states_told(paper)]
            for way in ways:
                other = copy_of(paper)
                way(other, stand, seed)
                self.assertEqual(other.view(), ahead)
                self.assertEqual(states_told(other), behind)
                self.assertEqual(outcome(other, rng.getrandbits(8)), ahead)

    def test_some_decided_leave_the_other_outcomes(self):
        for seed in range(30):
            rng = random.Random(seed)
            paper = some_paper(seed, "abcd", 12)
            stand = [name for name in paper.waiting() if rng.random() < 0.3]
            wiped = [name for name in paper.waiting() if name not in stand and rng.random() < 0.4]
            other = copy_of(paper)
            let_stand_all(other, lambda row: row[0] in stand)
            wipe_all(other, lambda row: row[0] in wiped)
            for choice in range(8):
                more = [name for name in other.waiting() if rng.random() < 0.5]
                self.assertEqual(outcome(other, bits_of(other, more)), outcome(paper, bits_of(paper, stand + more)))

    def test_all_wiped_is_the_old_text_and_all_standing_the_view(self):
        for seed in range(20):
            paper = some_paper(seed, "abc\n", 12)
            states = [(row[0], "waits") for row in paper.strokes()]
            fresh = filled_paper("abc\n", paper.strokes(), states)
            view = fresh.view()
            plain = [(old_slot(k), sign, "") for k, sign in enumerate("abc\n", start=1)]
            self.assertEqual(outcome(fresh, 0), plain)
            stood, wiped = copy_of(fresh), copy_of(fresh)
            let_stand_all(stood)
            wipe_all(wiped)
            self.assertEqual(stood.view(), view)
            self.assertEqual(wiped.view(), plain)


class ByPenTest(unittest.TestCase):
    def test_pens_alike_but_at_one_letter(self):
        pens = ("ann", "anna", "an", "anm", "bnn", "aon", "n", "a", "annaanna", "annaannb")
        paper = Paper("a")
        for pen in pens + pens:
            paper.put(pen, 0, "x")
        for pen in pens:
            of_pen = by_pen(pen)
            self.assertEqual([row[0] for row in paper.strokes() if of_pen(row)], [(pen, 1), (pen, 2)])
            self.assertEqual(wipe_all(copy_of(paper), of_pen), [(pen, 1), (pen, 2)])
            self.assertEqual(let_stand_all(copy_of(paper), of_pen), [(pen, 1), (pen, 2)])

    def test_pens_that_have_none(self):
        paper = four_strokes()
        kept = all_told(paper)
        for pen in ("zed", "anna", "a", "bo", "bobb"):
            self.assertEqual(let_stand_all(paper, by_pen(pen)), [])
            self.assertEqual(wipe_all(paper, by_pen(pen)), [])
            self.assertEqual([row for row in paper.strokes() if by_pen(pen)(row)], [])
        self.assertEqual(all_told(paper), kept)

    def test_each_kind_of_stroke(self):
        paper = Paper("abc")
        paper.put("ann", 0, "x")
        paper.strike("ann", 3, 4)
        paper.put("bob", 0, "y")
        paper.dress("ann", 0, 2, "bold")
        paper.move("ann", 0, 1, 2)
        paper.part("ann", 0)
        names = [("ann", n) for n in range(1, 6)]
        self.assertEqual(wipe_all(paper, by_pen("ann")), names)
        self.assertEqual(states_told(paper), [(row[0], "wiped" if row[0] in names else "waits")
                                              for row in paper.strokes()])

    def test_only_its_waiting_ones_are_decided(self):
        paper = four_strokes()
        paper.wipe(("bob", 1))
        self.assertEqual(let_stand_all(paper, by_pen("bob")), [("bob", 2)])
        self.assertEqual(paper.state(("bob", 1)), "wiped")
        self.assertEqual(paper.waiting(), [("cyd", 1), ("ann", 1)])

    def test_what_it_tells_is_a_truth_whatever_paper_the_stroke_is_of(self):
        of_bob = by_pen("bob")
        self.assertIs(of_bob((("bob", 7), 9, ("strike", (A,)))), True)
        self.assertIs(of_bob((("ann", 7), 9, ("put", ("bob", 1, 1), "bob"))), False)
        self.assertIs(of_bob((("ann", 7), 9, ("strike", (("bob", 1, 1),)))), False)


class InStretchTest(unittest.TestCase):
    def shown_paper(self):
        """Shows c+ a= x+ y+ b- c-: see the test below."""
        return four_strokes()

    def check_picks(self, paper, at, to, names):
        within = in_stretch(paper, at, to)
        self.assertEqual([row[0] for row in paper.strokes() if within(row)], names)

    def test_each_row_by_itself(self):
        paper = self.shown_paper()
        self.assertEqual([(row[2],) + row[3:] for row in shown(paper)], [
            ("c", False, True), ("a", True, True), ("x", False, True), ("y", False, True), ("b", True, False),
            ("c", True, False)])
        self.check_picks(paper, 0, 1, [("bob", 2)])
        self.check_picks(paper, 1, 2, [])
        self.check_picks(paper, 2, 3, [("cyd", 1), ("ann", 1)])
        self.check_picks(paper, 3, 4, [("cyd", 1)])
        self.check_picks(paper, 4, 5, [("bob", 1)])
        self.check_picks(paper, 5, 6, [("bob", 2)])

    def test_longer_stretches(self):
        paper = self.shown_paper()
        self.check_picks(paper, 0, 6, [("cyd", 1), ("bob", 1), ("ann", 1), ("bob", 2)])
        self.check_picks(paper, 0, 2, [("bob", 2)])
        self.check_picks(paper, 1, 4, [("cyd", 1), ("ann", 1)])
        self.check_picks(paper, 3, 5, [("cyd", 1), ("bob", 1)])
        self.check_picks(paper, 3, 6, [("cyd", 1), ("bob", 1), ("bob", 2)])

    def test_without_rows(self):
        paper = self.shown_paper()
        for at, to in ((0, 0), (2, 2), (6, 6), (3, 2), (5, 0), (6, 9), (7, 8), (FAR, FAR + 1), (FAR, 0), (-3, -1),
                       (-6, -5), (-1, 0), (-FAR, 0), (0, -1), (2, -1), (4, -FAR), (-1, -3)):
            self.check_picks(paper, at, to, [])
            self.assertEqual(let_stand_all(copy_of(paper), in_stretch(paper, at, to)), [])
        self.check_picks(Paper(""), 0, 5, [])
        self.check_picks(Paper("abc"), 0, 3, [])

    def test_below_0_and_beyond_the_end(self):
        paper = self.shown_paper()
        every = [("cyd", 1), ("bob", 1), ("ann", 1), ("bob", 2)]
        self.check_picks(paper, -1, 1, [("bob", 2)])
        self.check_picks(paper, -FAR, 2, [("bob", 2)])
        self.check_picks(paper, -2, 4, [("cyd", 1), ("ann", 1), ("bob", 2)])
        self.check_picks(paper, 4, 7, [("bob", 1), ("bob", 2)])
        self.check_picks(paper, 4, FAR, [("bob", 1), ("bob", 2)])
        self.check_picks(paper, -FAR, FAR, every)
        self.check_picks(paper, -1, 6, every)

    def test_decided_ones_are_picked_by_what_is_shown_then(self):
        paper = self.shown_paper()
        paper.let_stand(("bob", 2))   # c= a= x+ y+ b-
        self.check_picks(paper, 0, 1, [("bob", 2)])
        self.check_picks(paper, 4, 6, [("bob", 1)])
        paper.wipe(("cyd", 1))        # c= a= b-
        self.check_picks(paper, 2, 3, [("bob", 1)])
        self.check_picks(paper, 0, 9, [("bob", 1), ("bob", 2)])
        self.assertEqual(let_stand_all(paper, in_stretch(paper, 0, 9)), [("bob", 1)])

    def test_anchors_do_not_count(self):
        paper = Paper("ab")
        paper.move("ann", 0, 1, 2)     # a- b= a+
        paper.put("bob", 2, "x")       # behind the slot of the move
        paper.put("cyd", 1, "y")       # behind b
        paper.move("bob", 3, 4, 0)     # x
        self.assertEqual([row[2] for row in shown(paper)], ["x", "a", "b", "y", "a"])
        self.check_picks(paper, 4, 5, [("ann", 1)])
        self.check_picks(paper, 2, 3, [])
        self.check_picks(paper, 1, 2, [("ann", 1)])
        self.check_picks(paper, 3, 4, [("cyd", 1)])
        self.check_picks(paper, 0, 1, [("bob", 1), ("bob", 2)])

    def test_a_stroke_of_several_signs(self):
        paper = Paper("abcd")
        paper.dress("ann", 1, 3, "bold")
        paper.strike("bob", 0, 2)
        for at, names in ((0, [("bob", 1)]), (1, [("ann", 1), ("bob", 1)]), (2, [("ann", 1)]), (3, [])):
            self.check_picks(paper, at, at + 1, names)

    def test_the_rows_are_those_of_when_it_was_made(self):
        paper = self.shown_paper()
        within = in_stretch(paper, 2, 5)   # x, y, b
        paper.put("zed", 0, "pqr")
        paper.strike("zed", 5, 6)          # x: behind p q r c a
        paper.dress("ann", 0, 5, "small")  # p q r c a
        paper.wipe(("bob", 1))
        paper.let_stand(("cyd", 1))
        self.assertEqual([row[0] for row in paper.strokes() if within(row)],
                         [("cyd", 1), ("bob", 1), ("ann", 1), ("zed", 2)])
        self.assertEqual(let_stand_all(paper, within), [("ann", 1), ("zed", 2)])
        paper.fill([], [], [], 0)
        self.assertIs(within((("ivy", 1), 1, ("strike", (C, B)))), True)
        self.assertIs(within((("ivy", 1), 1, ("strike", (C, A)))), False)

    def test_a_sign_that_came_later_is_in_no_row(self):
        paper = self.shown_paper()
        within = in_stretch(paper, 0, 6)
        paper.put("zed", 3, "p")
        paper.dress("zed", 3, 4, "bold")
        self.assertEqual(wipe_all(paper, within), [("cyd", 1), ("bob", 1), ("ann", 1), ("bob", 2)])
        self.assertEqual(paper.waiting(), [("zed", 1), ("zed", 2)])

    def test_a_stroke_that_bears_the_name_later_but_puts_nothing_in(self):
        paper = self.shown_paper()
        within = in_stretch(paper, 2, 4)
        self.assertIs(within((("cyd", 1), 1, ("put", START, "x"))), True)
        self.assertIs(within((("cyd", 1), 1, ("move", (A, B), START))), False)

    def test_making_it_changes_nothing(self):
        paper = self.shown_paper()
        kept = all_told(paper)
        within = in_stretch(paper, 0, 6)
        for row in paper.strokes():
            self.assertIs(within(row), True)
        self.assertEqual(all_told(paper), kept)

    def test_made_up_papers(self):
        for seed in range(60):
            rng = random.Random(seed)
            paper = some_paper(seed, "abcd\n"[:seed % 6], 14)
            rows = shown(paper)
            for stretch in range(12):
                at, to = rng.randint(-3, len(rows) + 3), rng.randint(-3, len(rows) + 3)
                signs = [row[1] for number, row in enumerate(rows) if at <= number < to]
                names = [row[0] for row in paper.strokes() if any(sign in signs for sign in signs_of(row))]
                self.check_picks(paper, at, to, names)
                waiting = [name for name in names if paper.state(name) == "waits"]
                self.assertEqual(wipe_all(copy_of(paper), in_stretch(paper, at, to)), waiting)


if __name__ == "__main__":
    unittest.main()
