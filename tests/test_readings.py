import itertools
import unittest

from redquill.readings import reading, seated, text_of
from redquill.slots import slots_of
from redquill.strokes import START, in_order
from samples import any_strokes, jumbled, old_slot, slots_made_by, some_of, sound_strokes

A, B, C, D = old_slot(1), old_slot(2), old_slot(3), old_slot(4)


def put(pen, n, time, anchor, signs):
    return ((pen, n), time, ("put", anchor, signs))


def move(pen, n, time, names, anchor):
    return ((pen, n), time, ("move", names, anchor))


def strike(pen, n, time, names):
    return ((pen, n), time, ("strike", names))


def dress(pen, n, time, names, word):
    return ((pen, n), time, ("dress", names, word))


def all_names(strokes):
    return [row[0] for row in strokes]


def text_with(old, strokes, standing):
    return text_of(reading(old, strokes, standing))


def seated_by_the_words(old, strokes, standing):
    """[13] and [14] word by word, sign by sign."""
    row = slots_of(old, strokes)
    ordered = in_order(strokes)
    good = [s for s in ordered if s[0] in standing and all(slot in row for slot in slots_made_by(s))]
    signs = [(old_slot(k), sign) for k, sign in enumerate(old, start=1)]
    for stroke in good:
        if stroke[2][0] == "put":
            signs += zip(slots_made_by(stroke), stroke[2][2])
    told = []
    for name, sign in signs:
        naming = [s for s in good if s[2][0] != "put" and name in s[2][1]]
        if any(s[2][0] == "strike" for s in naming):
            continue
        moves = [s for s in naming if s[2][0] == "move"]
        dresses = [s for s in naming if s[2][0] == "dress"]
        slot = moves[-1][0] + (moves[-1][2][1].index(name) + 1,) if moves else name
        told.append((slot, name, sign, dresses[-1][2][2] if dresses else ""))
    return sorted(told, key=lambda seat: row.index(seat[0]))


class OldTextTest(unittest.TestCase):
    def test_no_strokes(self):
        self.assertEqual(reading("a\n", [], []), [(A, "a", ""), (B, "\n", "")])
        self.assertEqual(seated("a\n", [], []), [(A, A, "a", ""), (B, B, "\n", "")])

    def test_no_signs(self):
        self.assertEqual(reading("", [], []), [])
        self.assertEqual(seated("", [], []), [])
        self.assertEqual(reading("", [], [("ann", 1)]), [])

    def test_where_nothing_stands_it_is_the_old_text_with_plain_words(self):
        strokes = [put("ann", 1, 1, START, "xy"), strike("ann", 2, 2, (A, ("ann", 1, 1))),
                   dress("bob", 1, 3, (B, C), "bold"), move("bob", 2, 4, (C, A), START)]
        self.assertEqual(reading("abc", strokes, []), [(A, "a", ""), (B, "b", ""), (C, "c", "")])
        self.assertEqual(seated("abc", strokes, []), [(A, A, "a", ""), (B, B, "b", ""), (C, C, "c", "")])
        for seed in range(40):
            old = "abcd\nf"[:seed % 7]
            plain = [(old_slot(k), sign, "") for k, sign in enumerate(old, start=1)]
            self.assertEqual(reading(old, sound_strokes(seed, old, 15), []), plain)
            self.assertEqual(reading(old, any_strokes(seed, old, 15), []), plain)


class PutTest(unittest.TestCase):
    def test_signs_of_a_put_that_stands(self):
        self.assertEqual(reading("ab", [put("ann", 1, 1, A, "x\n")], [("ann", 1)]),
                         [(A, "a", ""), (("ann", 1, 1), "x", ""), (("ann", 1, 2), "\n", ""), (B, "b", "")])

    def test_signs_of_a_put_that_does_not_stand(self):
        self.assertEqual(reading("ab", [put("ann", 1, 1, A, "xy")], []), [(A, "a", ""), (B, "b", "")])

    def test_signs_of_a_loose_put(self):
        for anchor in (("bob", 1, 1), ("bob", 1, 2), ("nobody", 1, 1), old_slot(3), ("ann", 1, 1)):
            strokes = [put("ann", 1, 1, anchor, "xy"), put("bob", 1, 2, B, "z")]
            self.assertEqual(text_with("ab", strokes, all_names(strokes)), "abz")

    def test_one_that_stands_behind_a_slot_of_one_that_does_not(self):
        strokes = [put("ann", 1, 1, A, "xy"), put("bob", 1, 2, ("ann", 1, 1), "z"), put("cyd", 1, 3, A, "w")]
        self.assertEqual(text_with("ab", strokes, [("bob", 1)]), "azb")
        self.assertEqual(text_with("ab", strokes, [("bob", 1), ("cyd", 1)]), "awzb")
        self.assertEqual(text_with("ab", strokes, [("ann", 1)]), "axyb")
        self.assertEqual(text_with("ab", strokes, all_names(strokes)), "awxzyb")

    def test_a_moved_sign_of_a_put_that_does_not_stand_or_is_loose_is_not_there(self):
        moved = move("bob", 1, 2, (("ann", 1, 1),), START)
        self.assertEqual(text_with("ab", [put("ann", 1, 1, A, "x"), moved], [("bob", 1)]), "ab")
        loose = put("ann", 1, 1, ("nobody", 1, 1), "x")
        self.assertEqual(text_with("ab", [loose, moved], [("ann", 1), ("bob", 1)]), "ab")
        later = put("ann", 1, 3, ("nobody", 1, 1), "x")
        self.assertEqual(text_with("ab", [later, moved], [("ann", 1), ("bob", 1)]), "ab")


class StrikeTest(unittest.TestCase):
    def test_old_signs_struck(self):
        strokes = [strike("ann", 1, 1, (C, A))]
        self.assertEqual(text_with("abcd", strokes, [("ann", 1)]), "bd")
        self.assertEqual(text_with("abcd", strokes, []), "abcd")

    def test_earlier_and_later_than_the_put(self):
        for time in (1, 5, 9):
            strokes = [put("bob", 1, 5, A, "xyz"), strike("ann", 1, time, (("bob", 1, 2),))]
            self.assertEqual(text_with("ab", strokes, all_names(strokes)), "axzb")
            self.assertEqual(text_with("ab", strokes, [("bob", 1)]), "axyzb")
            self.assertEqual(text_with("ab", strokes, [("ann", 1)]), "ab")

    def test_earlier_and_later_than_the_move(self):
        for time in (1, 5, 9):
            strokes = [move("bob", 1, 5, (A, C), D), strike("ann", 1, time, (A,))]
            self.assertEqual(text_with("abcd", strokes, all_names(strokes)), "bdc")
            self.assertEqual(text_with("abcd", strokes, [("bob", 1)]), "bdac")
            self.assertEqual(text_with("abcd", strokes, [("ann", 1)]), "bcd")

    def test_one_of_several_strikes_is_enough(self):
        strokes = [strike("ann", 1, 1, (A, B)), strike("bob", 1, 2, (B, C))]
        self.assertEqual(text_with("abcd", strokes, [("ann", 1)]), "cd")
        self.assertEqual(text_with("abcd", strokes, [("bob", 1)]), "ad")
        self.assertEqual(text_with("abcd", strokes, [("ann", 1), ("bob", 1)]), "d")

    def test_names_of_no_sign(self):
        strokes = [move("ann", 1, 1, (A,), C),
                   strike("bob", 1, 2, (("ann", 1, 1), ("nobody", 1, 1), old_slot(9), START))]
        self.assertEqual(text_with("abcd", strokes, all_names(strokes)), "bcad")

    def test_a_struck_sign_is_still_a_place(self):
        strokes = [strike("ann", 1, 1, (B,)), put("bob", 1, 2, B, "x"), move("bob", 2, 3, (D,), B)]
        self.assertEqual(text_with("abcd", strokes, all_names(strokes)), "adxc")


class MoveTest(unittest.TestCase):
    def test_the_first_a_middle_and_the_last_name(self):
        strokes = [move("ann", 1, 1, (D, A, C), START)]
        self.assertEqual(seated("abcd", strokes, [("ann", 1)]),
                         [(("ann", 1, 1), D, "d", ""), (("ann", 1, 2), A, "a", ""), (("ann", 1, 3), C, "c", ""),
                          (B, B, "b", "")])

    def test_a_sign_at_each_place_of_several_moves(self):
        names = ((C, A, B), (A, C, B), (A, B, C))
        for k in (1, 2, 3):
            strokes = [move("ann", 1, 1, (C,), START), move("ann", 2, 2, names[k - 1], D)]
            slots = {name: slot for slot, name, sign, word in seated("abcd", strokes, all_names(strokes))}
            self.assertEqual(slots[C], ("ann", 2, k))
            slots = {name: slot for slot, name, sign, word in seated("abcd", strokes, [("ann", 1)])}
            self.assertEqual(slots[C], ("ann", 1, 1))

    def test_the_last_in_the_order_of_several_that_stand(self):
        strokes = [move("zed", 1, 1, (A,), B), move("bob", 2, 5, (A,), C), move("bob", 3, 5, (A,), D),
                   move("ann", 4, 9, (A,), START)]
        places = {("zed", 1): "bacd", ("bob", 2): "bcad", ("bob", 3): "bcda", ("ann", 4): "abcd"}
        for told in itertools.permutations(strokes):
            for many in (1, 2, 3, 4):
                for standing in itertools.combinations(strokes, many):
                    last = in_order(standing)[-1][0]
                    seats = seated("abcd", list(told), all_names(standing))
                    self.assertEqual("".join(seat[2] for seat in seats), places[last])
                    self.assertEqual([seat[0] for seat in seats if seat[1] == A], [last + (1,)])
        self.assertEqual(text_with("abcd", strokes, []), "abcd")

    def test_a_loose_move_has_no_say(self):
        strokes = [move("ann", 1, 1, (A, B), D), move("bob", 1, 2, (B, C), ("cyd", 1, 1)), put("cyd", 1, 3, C, "x")]
        self.assertEqual(seated("abcd", strokes, all_names(strokes)),
                         [(C, C, "c", ""), (("cyd", 1, 1), ("cyd", 1, 1), "x", ""), (D, D, "d", ""),
                          (("ann", 1, 1), A, "a", ""), (("ann", 1, 2), B, "b", "")])
        self.assertEqual(text_with("abcd", strokes, [("bob", 1)]), "abcd")

    def test_a_move_earlier_in_the_order_than_the_put_of_its_sign(self):
        strokes = [move("ann", 1, 1, (("bob", 1, 2), A), B), put("bob", 1, 2, START, "xy")]
        self.assertEqual(text_with("ab", strokes, all_names(strokes)), "xbya")

    def test_signs_put_in_are_moved(self):
        strokes = [put("ann", 1, 1, A, "xyz"), move("bob", 1, 2, (("ann", 1, 2), B), START)]
        self.assertEqual(seated("ab", strokes, all_names(strokes)),
                         [(("bob", 1, 1), ("ann", 1, 2), "y", ""), (("bob", 1, 2), B, "b", ""), (A, A, "a", ""),
                          (("ann", 1, 1), ("ann", 1, 1), "x", ""), (("ann", 1, 3), ("ann", 1, 3), "z", "")])

    def test_the_slot_of_a_move_is_no_sign(self):
        strokes = [move("ann", 1, 1, (A,), C), move("bob", 1, 2, (("ann", 1, 1), ("nobody", 1, 1)), START)]
        self.assertEqual(text_with("abc", strokes, all_names(strokes)), "bca")

    def test_behind_the_slot_of_a_move_that_does_not_stand(self):
        strokes = [move("ann", 1, 1, (A,), C), move("bob", 1, 2, (B,), ("ann", 1, 1))]
        self.assertEqual(text_with("abcd", strokes, [("bob", 1)]), "acbd")
        self.assertEqual(text_with("abcd", strokes, all_names(strokes)), "cabd")


class DressTest(unittest.TestCase):
    def words_with(self, strokes, standing):
        return [word for name, sign, word in reading("abc", strokes, standing)]

    def test_the_last_in_the_order_of_several_that_stand(self):
        strokes = [dress("zed", 1, 1, (A, B), "bold"), dress("bob", 2, 5, (B, C), "small"),
                   dress("bob", 3, 5, (C, A), "wide"), dress("ann", 4, 9, (B,), "")]
        expected = {(1, 1, 1, 1): ["wide", "", "wide"], (1, 1, 1, 0): ["wide", "small", "wide"],
                    (1, 1, 0, 1): ["bold", "", "small"], (1, 1, 0, 0): ["bold", "small", "small"],
                    (1, 0, 0, 0): ["bold", "bold", ""], (0, 1, 0, 0): ["", "small", "small"],
                    (0, 0, 1, 0): ["wide", "", "wide"], (0, 0, 0, 1): ["", "", ""], (0, 0, 0, 0): ["", "", ""],
                    (1, 0, 0, 1): ["bold", "", ""], (1, 0, 1, 0): ["wide", "bold", "wide"]}
        for told in itertools.permutations(strokes):
            for chosen, words in expected.items():
                standing = [row[0] for row, picked in zip(strokes, chosen) if picked]
                self.assertEqual(self.words_with(list(told), standing), words)

    def test_by_the_plain_word_last(self):
        strokes = [dress("ann", 1, 1, (A, B), "bold"), dress("bob", 1, 2, (B,), "")]
        self.assertEqual(self.words_with(strokes, all_names(strokes)), ["bold", "", ""])
        self.assertEqual(self.words_with(strokes, [("ann", 1)]), ["bold", "bold", ""])

    def test_put_in_moved_and_struck_signs(self):
        strokes = [dress("ann", 1, 1, (("bob", 1, 1), A, C), "bold"), put("bob", 1, 2, B, "xy"),
                   move("bob", 2, 3, (A,), C), strike("bob", 3, 4, (C,))]
        self.assertEqual(reading("abc", strokes, all_names(strokes)),
                         [(B, "b", ""), (("bob", 1, 1), "x", "bold"), (("bob", 1, 2), "y", ""), (A, "a", "bold")])

    def test_names_of_no_sign(self):
        strokes = [move("ann", 1, 1, (A,), B), dress("bob", 1, 2, (("ann", 1, 1), START, ("nobody", 1, 1)), "bold")]
        self.assertEqual(self.words_with(strokes, all_names(strokes)), ["", "", ""])


class StandingTest(unittest.TestCase):
    STROKES = [put("ann", 1, 1, A, "xy"), strike("bob", 1, 2, (B,)), dress("ann", 2, 3, (A,), "bold")]

    def test_in_any_order_and_told_again(self):
        expected = [(A, "a", "bold"), (("ann", 1, 1), "x", ""), (("ann", 1, 2), "y", "")]
        for standing in itertools.permutations([("ann", 1), ("bob", 1), ("ann", 2), ("bob", 1)]):
            self.assertEqual(reading("ab", self.STROKES, list(standing)), expected)

    def test_names_of_no_stroke_mean_nothing(self):
        others = [("ann", 3), ("bob", 2), ("nobody", 1), ("", 0)]
        for many in range(4):
            for standing in itertools.combinations(all_names(self.STROKES), many):
                self.assertEqual(reading("ab", self.STROKES, others + list(standing) + others),
                                 reading("ab", self.STROKES, list(standing)))
        self.assertEqual(reading("ab", self.STROKES, others), [(A, "a", ""), (B, "b", "")])
        self.assertEqual(reading("ab", [], others), [(A, "a", ""), (B, "b", "")])

    def test_strokes_in_any_order_told_twice(self):
        expected = reading("ab", self.STROKES, all_names(self.STROKES))
        for told in itertools.permutations(self.STROKES + self.STROKES[1:]):
            self.assertEqual(reading("ab", list(told), all_names(self.STROKES)), expected)


class ByTheWordsTest(unittest.TestCase):
    def check(self, seed, old, strokes):
        standing = [row[0] for row in some_of(seed, strokes)]
        for names in (standing, all_names(strokes), []):
            expected = seated_by_the_words(old, strokes, names)
            self.assertEqual(seated(old, strokes, names), expected)
            self.assertEqual(seated(old, jumbled(seed, strokes), jumbled(seed, names)), expected)
            self.assertEqual(reading(old, jumbled(seed, strokes), names), [seat[1:] for seat in expected])

    def test_any_strokes(self):
        for seed in range(200):
            old = "abcdef"[:seed % 7]
            with self.subTest(seed=seed):
                self.check(seed, old, any_strokes(seed, old, 1 + seed % 14))

    def test_sound_strokes(self):
        for seed in range(200):
            old = "abcdef"[:seed % 7]
            with self.subTest(seed=seed):
                self.check(seed, old, sound_strokes(seed, old, 1 + seed % 20))

    def test_a_sign_is_there_at_most_once(self):
        for seed in range(60):
            strokes = sound_strokes(seed, "abcd", 25)
            names = [row[0] for row in reading("abcd", strokes, [row[0] for row in some_of(seed, strokes)])]
            self.assertEqual(len(set(names)), len(names))


class TextTest(unittest.TestCase):
    def test_the_signs_of_a_reading(self):
        self.assertEqual(text_of([]), "")
        self.assertEqual(text_of([(B, "b", "bold")]), "b")
        self.assertEqual(text_of([(B, "b", "bold"), (("ann", 1, 1), "\n", ""), (A, "\\", "")]), "b\n\\")
        self.assertEqual(text_of(reading("a\n b", [], [])), "a\n b")


class OwnListsTest(unittest.TestCase):
    def test_what_is_handed_in_stays_and_what_is_told_is_the_askers_own(self):
        strokes = [strike("bob", 1, 2, (B,)), put("ann", 1, 1, A, "xy"), strike("bob", 1, 2, (B,))]
        standing = [("bob", 1), ("ann", 1), ("bob", 1)]
        kept_strokes, kept_standing = list(strokes), list(standing)
        for tell in (seated, reading):
            told = tell("ab", strokes, standing)
            again = list(told)
            self.assertIsInstance(told, list)
            self.assertTrue(all(isinstance(row, tuple) for row in told))
            self.assertEqual((strokes, standing), (kept_strokes, kept_standing))
            told.clear()
            self.assertEqual(tell("ab", strokes, standing), again)
        rows = reading("ab", strokes, standing)
        kept_rows = list(rows)
        text_of(rows)
        self.assertEqual(rows, kept_rows)


if __name__ == "__main__":
    unittest.main()
