import itertools
import unittest

from redquill.errors import OtherText, QuillError, Twice
from redquill.paper import Paper
from redquill.pour import clashes, poured
from redquill.readings import reading, text_of
from redquill.strokes import START, in_order, stroke_of
from samples import (all_told, copy_of, filled_paper, grown_apart, names_in, old_slot, some_of, sound_strokes,
                     states_told)

A, B, C, D = (old_slot(k) for k in range(1, 5))
STATES = ("waits", "stands", "wiped")


def put(pen, n, time, anchor, signs):
    return ((pen, n), time, ("put", anchor, signs))


def strike(pen, n, time, *names):
    return ((pen, n), time, ("strike", names))


def dress(pen, n, time, word, *names):
    return ((pen, n), time, ("dress", names, word))


def move(pen, n, time, anchor, *names):
    return ((pen, n), time, ("move", names, anchor))


def waiting_paper(old, strokes):
    return filled_paper(old, strokes, [(row[0], "waits") for row in strokes])


class PouredTest(unittest.TestCase):
    def test_strokes_of_both(self):
        one, other = Paper("abc"), Paper("abc")
        one.put("ann", 1, "x")
        one.strike("ann", 0, 1)
        other.dress("bob", 0, 2, "bold")
        other.move("bob", 2, 3, 0)
        paper = poured(one, other)
        self.assertIsInstance(paper, Paper)
        self.assertEqual(paper.old_text(), "abc")
        self.assertEqual(paper.strokes(), [put("ann", 1, 1, A, "x"), dress("bob", 1, 1, "bold", A, B),
                                           strike("ann", 2, 2, A), move("bob", 2, 2, START, C)])
        self.assertEqual(paper.view(), [(C, "c", ""), (("ann", 1, 1), "x", ""), (B, "b", "bold")])

    def test_strokes_that_both_have_are_there_once(self):
        base = Paper("abc")
        base.put("ann", 1, "x")
        base.dress("bob", 0, 2, "bold")
        one, other = copy_of(base), copy_of(base)
        one.strike("cyd", 0, 1)
        other.put("dot", 4, "y")
        paper = poured(one, other)
        self.assertEqual(paper.strokes(), base.strokes() + [strike("cyd", 1, 3, A), put("dot", 1, 3, C, "y")])
        self.assertEqual(text_of(paper.view()), "xbcy")

    def test_papers_without_strokes(self):
        for old in ("", "a\n"):
            self.assertEqual(all_told(poured(Paper(old), Paper(old))), all_told(Paper(old)))
            one = Paper(old)
            one.put("ann", 0, "x")
            self.assertEqual(all_told(poured(one, Paper(old))), all_told(one))
            self.assertEqual(all_told(poured(Paper(old), one)), all_told(one))

    def test_a_paper_with_itself(self):
        for seed in range(10):
            paper = grown_apart(seed)[0]
            kept = all_told(paper)
            self.assertEqual(all_told(poured(paper, paper)), kept)
            again = poured(paper, copy_of(paper))
            again.put("ann", 0, "x")
            self.assertEqual(all_told(paper), kept)

    def test_made_up_papers(self):
        for seed in range(40):
            one, other, third = grown_apart(seed)
            paper = poured(one, other)
            every = dict((row[0], row) for row in one.strokes() + other.strokes())
            self.assertEqual(paper.strokes(), sorted(every.values(), key=lambda row: (row[1], row[0])))
            self.assertEqual(paper.old_text(), one.old_text())
            self.assertEqual(paper.view(), reading(one.old_text(), paper.strokes(), names_in(paper, "waits", "stands")))


class RefusedTest(unittest.TestCase):
    def check_refused(self, refusal, one, other):
        for deed in (poured, clashes):
            kept = (all_told(one), all_told(other))
            with self.assertRaises(QuillError) as caught:
                deed(one, other)
            self.assertIs(type(caught.exception), refusal)
            self.assertEqual((all_told(one), all_told(other)), kept)
        return caught.exception

    def check_twice(self, one, other, name):
        for deed in (poured, clashes):
            with self.assertRaises(Twice) as caught:
                deed(one, other)
            self.assertEqual(caught.exception.stroke, name)
        self.check_refused(Twice, one, other)

    def test_unlike_old_texts(self):
        for old, other_old in (("", "a"), ("a", "b"), ("ab", "ab\n"), ("ab", "ba"), ("a", "A"), ("a ", "a")):
            self.check_refused(OtherText, Paper(old), Paper(other_old))
            self.check_refused(OtherText, Paper(other_old), Paper(old))

    def test_unlike_old_texts_that_read_alike(self):
        one, other = Paper("ab"), Paper("a")
        other.put("ann", 1, "b")
        self.check_refused(OtherText, one, other)
        self.check_refused(OtherText, other, one)

    def test_unlike_old_texts_are_refused_first(self):
        one, other = Paper("ab"), Paper("ac")
        one.put("ann", 0, "x")
        other.put("ann", 0, "y")
        self.check_refused(OtherText, one, other)

    def test_unlike_strokes_of_one_name(self):
        mine = put("ann", 1, 2, A, "x")
        for theirs in (put("ann", 1, 2, A, "y"), put("ann", 1, 2, A, "xx"), put("ann", 1, 2, B, "x"),
                       put("ann", 1, 3, A, "x"), put("ann", 1, 1, A, "x"), strike("ann", 1, 2, A),
                       dress("ann", 1, 2, "x", A), move("ann", 1, 2, A, B)):
            for states in itertools.product(STATES, repeat=2):
                one = filled_paper("ab", [mine], [(("ann", 1), states[0])])
                other = filled_paper("ab", [theirs], [(("ann", 1), states[1])])
                self.check_twice(one, other, ("ann", 1))
                self.check_twice(other, one, ("ann", 1))

    def test_names_and_words_in_which_strokes_are_unlike(self):
        for mine, theirs in ((strike("ann", 1, 1, A, B), strike("ann", 1, 1, B, A)),
                             (strike("ann", 1, 1, A, B), strike("ann", 1, 1, A)),
                             (dress("ann", 1, 1, "bold", A), dress("ann", 1, 1, "", A)),
                             (dress("ann", 1, 1, "bold", A), dress("ann", 1, 1, "bold", B)),
                             (move("ann", 1, 1, START, A), move("ann", 1, 1, A, A)),
                             (move("ann", 1, 1, START, A, B), move("ann", 1, 1, START, B, A)),
                             (strike("ann", 1, 1, A), dress("ann", 1, 1, "", A))):
            self.check_twice(waiting_paper("ab", [mine]), waiting_paper("ab", [theirs]), ("ann", 1))

    def test_the_first_in_the_order_of_the_first_papers_strokes(self):
        same = put("zed", 1, 1, START, "z")
        one = waiting_paper("ab", [same, put("cyd", 1, 2, A, "x"), put("ann", 2, 3, A, "x"), put("ann", 1, 4, A, "x"),
                                   put("bob", 1, 1, A, "x")])
        other = waiting_paper("ab", [same, put("cyd", 1, 6, A, "x"), put("ann", 2, 5, A, "x"),
                                     put("ann", 1, 4, A, "y")])
        self.check_twice(one, other, ("cyd", 1))
        self.check_twice(other, one, ("ann", 1))

    def test_the_first_where_times_are_alike(self):
        one = waiting_paper("ab", [put(pen, n, 1, A, "x") for pen, n in (("b", 2), ("ab", 7), ("ab", 5), ("c", 1))])
        other = waiting_paper("ab", [put(pen, n, 1, A, "y") for pen, n in (("c", 1), ("b", 2), ("ab", 7), ("ab", 5))])
        self.check_twice(one, other, ("ab", 5))

    def test_pens_that_went_apart(self):
        base = Paper("abc")
        base.put("ann", 0, "x")
        one, other = copy_of(base), copy_of(base)
        one.put("ann", 0, "y")
        other.put("bob", 0, "y")
        other.put("ann", 0, "y")
        self.check_twice(one, other, ("ann", 2))

    def test_one_that_was_taken_back_is_not_there_twice(self):
        one, other = Paper("abc"), Paper("abc")
        one.put("ann", 0, "x")
        other.put("ann", 0, "y")
        self.check_twice(one, other, ("ann", 1))
        one.take_back("ann", ("ann", 1))
        for first, second in ((one, other), (other, one)):
            self.assertEqual(poured(first, second).strokes(), other.strokes())
            self.assertEqual(clashes(first, second), [])


class ApartTest(unittest.TestCase):
    def three(self):
        base = Paper("abc")
        base.put("ann", 1, "xy")
        one, other = copy_of(base), copy_of(base)
        one.dress("ann", 0, 3, "bold")
        other.strike("bob", 0, 1)
        return [one, other, poured(one, other)]

    def test_both_stay_as_they_are(self):
        for seed in range(30):
            one, other, third = grown_apart(seed)
            kept = (all_told(one), all_told(other))
            poured(one, other)
            clashes(one, other)
            self.assertEqual((all_told(one), all_told(other)), kept)

    def test_what_is_done_to_one_changes_no_other(self):
        deeds = (lambda paper: paper.put("cyd", 0, "p"), lambda paper: paper.strike("cyd", 0, 1),
                 lambda paper: paper.dress("ann", 0, 1), lambda paper: paper.move("bob", 0, 1, 2),
                 lambda paper: paper.let_stand(("ann", 1)), lambda paper: paper.wipe(("ann", 1)),
                 lambda paper: paper.take_back(paper.strokes()[-1][0][0], paper.strokes()[-1][0]),
                 lambda paper: paper.fill([], [], [], 0))
        for deed, number in itertools.product(deeds, range(3)):
            papers = self.three()
            kept = [all_told(paper) for paper in papers]
            deed(papers[number])
            for k in range(3):
                self.assertEqual(all_told(papers[k]) == kept[k], k != number)

    def test_what_is_done_to_a_told_list_changes_nothing(self):
        papers = self.three()
        kept = [all_told(paper) for paper in papers]
        for paper in papers:
            paper.strokes().clear()
            paper.numbers().clear()
        self.assertEqual([all_told(paper) for paper in papers], kept)


class StatesTest(unittest.TestCase):
    def test_each_pair_of_states(self):
        behind = {("waits", "waits"): "waits", ("waits", "stands"): "stands", ("waits", "wiped"): "wiped",
                  ("stands", "waits"): "stands", ("stands", "stands"): "stands", ("stands", "wiped"): "wiped",
                  ("wiped", "waits"): "wiped", ("wiped", "stands"): "wiped", ("wiped", "wiped"): "wiped"}
        stroke = put("ann", 1, 1, START, "x")
        for (mine, theirs), state in behind.items():
            paper = poured(filled_paper("a", [stroke], [(("ann", 1), mine)]),
                           filled_paper("a", [stroke], [(("ann", 1), theirs)]))
            self.assertEqual(states_told(paper), [(("ann", 1), state)])
            self.assertEqual(text_of(paper.view()), "a" if state == "wiped" else "xa")

    def test_strokes_of_one_alone_keep_their_states(self):
        for mine, theirs in itertools.product(STATES, repeat=2):
            one = filled_paper("a", [put("ann", 1, 1, START, "x")], [(("ann", 1), mine)])
            other = filled_paper("a", [put("bob", 1, 1, START, "y")], [(("bob", 1), theirs)])
            self.assertEqual(states_told(poured(one, other)), [(("ann", 1), mine), (("bob", 1), theirs)])

    def test_made_up_papers(self):
        for seed in range(40):
            one, other, third = grown_apart(seed)
            mine, theirs = dict(states_told(one)), dict(states_told(other))
            for name, state in states_told(poured(one, other)):
                states = (mine.get(name), theirs.get(name))
                best = "wiped" if "wiped" in states else "stands" if "stands" in states else "waits"
                self.assertEqual(state, best)

    def test_taken_back_in_the_one_and_there_in_the_other(self):
        for state in STATES:
            base = Paper("ab")
            base.put("ann", 1, "x")
            base.put("bob", 0, "y")
            one, other = copy_of(base), copy_of(base)
            one.take_back("ann", ("ann", 1))
            other.dress("cyd", 1, 3, "bold")
            if state != "waits":
                (other.let_stand if state == "stands" else other.wipe)(("ann", 1))
            for paper in (poured(one, other), poured(other, one)):
                self.assertEqual(paper.strokes(), other.strokes())
                self.assertEqual(states_told(paper), [
                    (("ann", 1), state), (("bob", 1), "waits"), (("cyd", 1), "waits")])

    def test_taken_back_in_both(self):
        base = Paper("ab")
        base.put("ann", 1, "x")
        one, other = copy_of(base), copy_of(base)
        one.take_back("ann", ("ann", 1))
        other.take_back("ann", ("ann", 1))
        paper = poured(one, other)
        self.assertEqual((paper.strokes(), paper.numbers(), paper.last_time()), ([], [("ann", 1)], 1))
        self.assertEqual(paper.put("ann", 0, "y"), ("ann", 2))


class NumbersAndTimeTest(unittest.TestCase):
    def test_the_greater_ones_of_both(self):
        one, other = Paper("a"), Paper("a")
        one.fill([], [], [("ann", 4), ("bob", 2), ("cyd", 3), ("dot", 5)], 9)
        other.fill([], [], [("eve", 1), ("dot", 5), ("cyd", 7), ("bob", 1)], 12)
        for paper in (poured(one, other), poured(other, one)):
            self.assertEqual(paper.numbers(), [("ann", 4), ("bob", 2), ("cyd", 7), ("dot", 5), ("eve", 1)])
            self.assertEqual(paper.last_time(), 12)

    def test_further_deeds_go_on_from_them(self):
        one, other = Paper("abc"), Paper("abc")
        one.fill([strike("ann", 2, 3, A)], [(("ann", 2), "waits")], [("ann", 6), ("bob", 1)], 20)
        other.fill([put("bob", 3, 15, C, "x")], [(("bob", 3), "stands")], [("bob", 8), ("ann", 1)], 15)
        for paper in (poured(one, other), poured(other, one)):
            self.assertEqual(paper.put("ann", 0, "y"), ("ann", 7))
            self.assertEqual(paper.strike("bob", 0, 1), ("bob", 9))
            self.assertEqual(paper.dress("cyd", 0, 1), ("cyd", 1))
            self.assertEqual([row[:2] for row in paper.strokes()], [
                (("ann", 2), 3), (("bob", 3), 15), (("ann", 7), 21), (("bob", 9), 22), (("cyd", 1), 23)])

    def test_numbers_and_time_of_strokes_taken_back(self):
        one, other = Paper("a"), Paper("a")
        for n in range(1, 4):
            one.put("ann", 0, "x")
            one.take_back("ann", ("ann", n))
        other.put("bob", 0, "y")
        paper = poured(one, other)
        self.assertEqual(paper.numbers(), [("ann", 3), ("bob", 1)])
        self.assertEqual(paper.last_time(), 3)
        self.assertEqual(paper.put("ann", 0, "z"), ("ann", 4))
        self.assertEqual(paper.last_time(), 4)

    def test_deeds_on_made_up_papers(self):
        for seed in range(20):
            one, other, third = grown_apart(seed)
            paper = poured(one, other)
            greatest = dict(sorted(one.numbers() + other.numbers(), key=lambda pair: pair[1]))
            self.assertEqual(paper.numbers(), sorted(greatest.items()))
            time = max(one.last_time(), other.last_time())
            self.assertEqual(paper.last_time(), time)
            for pen in sorted(greatest):
                self.assertEqual(paper.put(pen, 0, "x"), (pen, greatest[pen] + 1))
                time += 1
                self.assertEqual(paper.strokes()[-1][1], time)


class WhicheverOrderTest(unittest.TestCase):
    def test_two_poured_either_way_round(self):
        for seed in range(60):
            for one, other in itertools.combinations(grown_apart(seed), 2):
                self.assertEqual(all_told(poured(one, other)), all_told(poured(other, one)))

    def test_three_in_any_order(self):
        for seed in range(30):
            papers = grown_apart(seed)
            kept = None
            for one, other, third in itertools.permutations(papers):
                for paper in (poured(poured(one, other), third), poured(one, poured(other, third))):
                    kept = kept or all_told(paper)
                    self.assertEqual(all_told(paper), kept)

    def test_poured_again_it_is_the_same(self):
        for seed in range(20):
            one, other, third = grown_apart(seed)
            paper = poured(one, other)
            for again in (poured(paper, one), poured(other, paper), poured(paper, paper)):
                self.assertEqual(all_told(again), all_told(paper))

    def test_choices_of_the_ones_strokes_read_as_in_the_one(self):
        for seed in range(40):
            one, other, third = grown_apart(seed)
            papers = [poured(one, other), poured(other, one), poured(poured(third, other), one)]
            for mine, choice in itertools.product((one, other), range(6)):
                standing = some_of(f"{seed} {choice}", [row[0] for row in mine.strokes()])
                told = reading(mine.old_text(), mine.strokes(), standing)
                for paper in papers:
                    self.assertEqual(reading(paper.old_text(), paper.strokes(), standing), told)

    def test_choices_among_strokes_filled_in(self):
        for seed in range(40):
            strokes = in_order(sound_strokes(seed, "abcd", 16))
            # Strokes with all that they lean on are sound by themselves.
            parts = []
            for part in ("one", "other"):
                names = some_of(f"{seed} {part}", [row[0] for row in strokes])
                for row in reversed(strokes):
                    if row[0] in names:
                        names += stroke_of(row).leans()
                parts.append(waiting_paper("abcd", [row for row in strokes if row[0] in names]))
            paper = poured(*parts)
            for mine, choice in itertools.product(parts, range(6)):
                standing = some_of(f"{seed} {choice}", [row[0] for row in mine.strokes()])
                self.assertEqual(reading("abcd", paper.strokes(), standing), reading("abcd", mine.strokes(), standing))


def clashes_by_the_words(one, other):
    """[36] word by word: each pair of strokes, each sign that both name."""
    mine = [row for row in one.strokes() if row not in other.strokes() and one.state(row[0]) != "wiped"]
    theirs = [row for row in other.strokes() if row not in one.strokes() and other.state(row[0]) != "wiped"]
    found = []
    for row, other_row in itertools.product(mine, theirs):
        kinds = {row[2][0], other_row[2][0]}
        clash = kinds in ({"move"}, {"strike", "move"}, {"strike", "dress"})
        if clash or (kinds == {"dress"} and row[2][2] != other_row[2][2]):
            ahead, behind = in_order([row, other_row])
            found += [(name, ahead, behind) for name in row[2][1] if name in other_row[2][1]]
    found.sort(key=lambda clash: (clash[0], clash[1][1], clash[1][0], clash[2][1], clash[2][0]))
    return [(name, ahead[0], behind[0]) for name, ahead, behind in found]


class ClashesTest(unittest.TestCase):
    def check_clashes(self, mine, theirs, told):
        one, other = waiting_paper("abcd", mine), waiting_paper("abcd", theirs)
        self.assertEqual(clashes(one, other), told)
        self.assertEqual(clashes(other, one), told)

    def test_none(self):
        self.assertEqual(clashes(Paper(""), Paper("")), [])
        self.check_clashes([], [], [])
        self.check_clashes([strike("ann", 1, 1, A)], [], [])

    def test_each_kind_of_pair(self):
        acts = {"put": put("ann", 1, 1, A, "x"), "strike": strike("ann", 1, 1, A),
                "bold": dress("ann", 1, 1, "bold", A), "plain": dress("ann", 1, 1, "", A),
                "move": move("ann", 1, 1, START, A)}
        clashing = (("strike", "bold"), ("strike", "plain"), ("strike", "move"), ("bold", "plain"), ("move", "move"))
        for mine, theirs in itertools.product(acts, repeat=2):
            row = (("bob", 1),) + acts[theirs][1:]
            clash = (mine, theirs) in clashing or (theirs, mine) in clashing
            self.check_clashes([acts[mine]], [row], [(A, ("ann", 1), ("bob", 1))] if clash else [])

    def test_two_dresses(self):
        for word, other_word in itertools.product(("", "bold", "bol", "bolds", "small"), repeat=2):
            told = [] if word == other_word else [(A, ("ann", 1), ("bob", 1)), (B, ("ann", 1), ("bob", 1))]
            self.check_clashes([dress("ann", 1, 1, word, A, B)], [dress("bob", 1, 1, other_word, B, C, A)], told)

    def test_two_moves_to_the_same_place_clash_too(self):
        self.check_clashes([move("ann", 1, 1, START, A)], [move("bob", 1, 1, START, A)], [(A, ("ann", 1), ("bob", 1))])

    def test_strokes_of_other_signs_do_not_clash(self):
        self.check_clashes([strike("ann", 1, 1, A, C)], [move("bob", 1, 1, A, B, D)], [])
        self.check_clashes([strike("ann", 1, 1, A)], [put("bob", 1, 1, A, "x"), move("bob", 2, 2, A, B)], [])

    def test_strokes_of_one_paper_do_not_clash(self):
        self.check_clashes([strike("ann", 1, 1, A), move("bob", 1, 2, START, A)], [dress("cyd", 1, 1, "bold", B)], [])

    def test_strokes_of_one_pen_may_clash(self):
        self.check_clashes([strike("ann", 1, 1, A)], [move("ann", 2, 2, START, A)], [(A, ("ann", 1), ("ann", 2))])

    def test_the_stroke_ahead_in_the_order_is_told_first(self):
        for mine, theirs in ((("zed", 1, 1), ("ann", 1, 2)), (("ann", 9, 2), ("bob", 1, 2)),
                             (("ann", 9, 2), ("ann", 10, 2)), (("ab", 2, 2), ("b", 1, 2)), (("b", 3, 9), ("b", 2, 10))):
            self.check_clashes([strike(*mine, A)], [move(*theirs, START, A)], [(A, mine[:2], theirs[:2])])
            self.check_clashes([dress(*theirs, "bold", A)], [strike(*mine, A)], [(A, mine[:2], theirs[:2])])

    def test_sorted_by_signs_then_by_first_strokes_then_by_second_ones(self):
        base = [put("zed", 1, 1, START, "xyxyxyxyxyxy")]
        signs = [("zed", 1, 10), ("zed", 1, 9), B, A]
        mine = base + [strike("cyd", 1, 2, *signs), move("ann", 1, 6, START, *signs)]
        theirs = base + [move("bob", 2, 3, START, *signs[::-1]), move("bob", 10, 6, START, *signs),
                         dress("abe", 1, 8, "bold", *signs)]
        pairs = [(("cyd", 1), ("bob", 2)), (("cyd", 1), ("bob", 10)), (("cyd", 1), ("abe", 1)),
                 (("bob", 2), ("ann", 1)), (("ann", 1), ("bob", 10))]
        told = [(sign,) + pair for sign in sorted(signs) for pair in pairs]
        self.assertEqual(sorted(signs), [A, B, ("zed", 1, 9), ("zed", 1, 10)])
        self.check_clashes(mine, theirs, told)

    def test_wiped_strokes_make_none(self):
        mine, theirs = strike("ann", 1, 1, A), move("bob", 1, 1, START, A)
        for states in itertools.product(STATES, repeat=2):
            one = filled_paper("ab", [mine], [(("ann", 1), states[0])])
            other = filled_paper("ab", [theirs], [(("bob", 1), states[1])])
            told = [] if "wiped" in states else [(A, ("ann", 1), ("bob", 1))]
            self.assertEqual(clashes(one, other), told)
            self.assertEqual(clashes(other, one), told)

    def test_strokes_that_both_have_make_none(self):
        both, mine = move("ann", 1, 1, START, A), strike("bob", 1, 2, A)
        self.check_clashes([both, mine], [both], [])
        self.check_clashes([both, mine], [both, move("cyd", 1, 2, B, A)], [(A, ("bob", 1), ("cyd", 1))])
        for states in itertools.product(STATES, repeat=2):
            one = filled_paper("ab", [both, mine], [(("ann", 1), states[0]), (("bob", 1), "waits")])
            other = filled_paper("ab", [both], [(("ann", 1), states[1])])
            self.assertEqual(clashes(one, other), [])
            self.assertEqual(clashes(other, one), [])

    def test_one_that_was_taken_back_is_one_that_the_paper_has_not(self):
        base = Paper("ab")
        base.move("ann", 0, 1, 2)
        one, other = copy_of(base), copy_of(base)
        other.take_back("ann", ("ann", 1))
        other.strike("bob", 0, 1)
        self.assertEqual(clashes(one, other), [(A, ("ann", 1), ("bob", 1))])

    def test_signs_that_were_put_in(self):
        base = Paper("ab")
        base.put("ann", 1, "xy")
        one, other = copy_of(base), copy_of(base)
        one.strike("bob", 1, 4)
        other.dress("cyd", 0, 3, "bold")
        self.assertEqual(clashes(one, other), [(("ann", 1, 1), ("bob", 1), ("cyd", 1)),
                                               (("ann", 1, 2), ("bob", 1), ("cyd", 1))])

    def test_made_up_papers(self):
        found = 0
        for seed in range(80):
            for one, other in itertools.combinations(grown_apart(seed), 2):
                told = clashes(one, other)
                self.assertEqual(told, clashes_by_the_words(one, other))
                self.assertEqual(clashes(other, one), told)
                found += len(told)
        self.assertGreater(found, 100)

    def test_the_list_is_the_askers_own(self):
        one, other = waiting_paper("ab", [strike("ann", 1, 1, A)]), waiting_paper("ab", [move("bob", 1, 1, START, A)])
        kept = (all_told(one), all_told(other))
        told = clashes(one, other)
        self.assertIsInstance(told, list)
        told.clear()
        self.assertEqual(clashes(one, other), [(A, ("ann", 1), ("bob", 1))])
        self.assertEqual((all_told(one), all_told(other)), kept)


if __name__ == "__main__":
    unittest.main()
