import itertools
import unittest

from redquill.slots import slots_of
from redquill.strokes import START, in_order, stroke_of
from samples import any_strokes, jumbled, old_slot, slots_made_by, some_of, sound_strokes

A, B, C = old_slot(1), old_slot(2), old_slot(3)


def put(pen, n, time, anchor, signs):
    return ((pen, n), time, ("put", anchor, signs))


def move(pen, n, time, names, anchor):
    return ((pen, n), time, ("move", names, anchor))


def strike(pen, n, time, names):
    return ((pen, n), time, ("strike", names))


def dress(pen, n, time, names, word):
    return ((pen, n), time, ("dress", names, word))


def slots_by_the_words(old, strokes):
    """[11] word by word, by a search through the row."""
    row = [START] + [old_slot(k) for k in range(1, len(old) + 1)]
    for stroke in in_order(strokes):
        if stroke[2][0] in ("put", "move"):
            anchor = stroke[2][1] if stroke[2][0] == "put" else stroke[2][2]
            if anchor in row:
                at = row.index(anchor) + 1
                row[at:at] = slots_made_by(stroke)
    return row[1:]


class OldTextTest(unittest.TestCase):
    def test_no_strokes(self):
        self.assertEqual(slots_of("abc", []), [A, B, C])
        self.assertEqual(slots_of("a", []), [A])
        self.assertEqual(slots_of("aa\n\n", []), [A, B, C, old_slot(4)])

    def test_the_old_text_without_signs(self):
        self.assertEqual(slots_of("", []), [])
        self.assertEqual(slots_of("", [put("ann", 1, 1, START, "xy")]), [("ann", 1, 1), ("ann", 1, 2)])
        self.assertEqual(slots_of("", [put("ann", 1, 1, A, "xy")]), [])

    def test_three_hundred_signs(self):
        self.assertEqual(slots_of("s" * 300, []), [old_slot(k) for k in range(1, 301)])


class AnchorTest(unittest.TestCase):
    def check_both(self, anchor, others, row):
        """A put of two signs and a move of two names by one name each make the same row."""
        self.assertEqual(slots_of("abc", others + [put("pen", 9, 5, anchor, "xy")]), row)
        self.assertEqual(slots_of("abc", others + [move("pen", 9, 5, (C, A), anchor)]), row)

    def test_behind_start(self):
        self.check_both(START, [], [("pen", 9, 1), ("pen", 9, 2), A, B, C])

    def test_behind_an_old_slot(self):
        self.check_both(A, [], [A, ("pen", 9, 1), ("pen", 9, 2), B, C])
        self.check_both(B, [], [A, B, ("pen", 9, 1), ("pen", 9, 2), C])
        self.check_both(C, [], [A, B, C, ("pen", 9, 1), ("pen", 9, 2)])

    def test_behind_a_slot_of_a_put_ahead_in_the_order(self):
        ahead = [put("ann", 1, 1, B, "xyz")]
        for k in (1, 2, 3):
            row = [A, B, ("ann", 1, 1), ("ann", 1, 2), ("ann", 1, 3), C]
            row[2 + k:2 + k] = [("pen", 9, 1), ("pen", 9, 2)]
            self.check_both(("ann", 1, k), ahead, row)

    def test_behind_a_slot_of_a_move_ahead_in_the_order(self):
        ahead = [move("ann", 1, 1, (C, B), START)]
        self.check_both(("ann", 1, 1), ahead, [("ann", 1, 1), ("pen", 9, 1), ("pen", 9, 2), ("ann", 1, 2), A, B, C])
        self.check_both(("ann", 1, 2), ahead, [("ann", 1, 1), ("ann", 1, 2), ("pen", 9, 1), ("pen", 9, 2), A, B, C])

    def test_like_times_the_pen_and_then_the_number_tell_who_is_ahead(self):
        for pen, n in (("ann", 10), ("pen", 8), ("pem", 99)):
            self.check_both((pen, n, 1), [put(pen, n, 5, A, "x")],
                            [A, (pen, n, 1), ("pen", 9, 1), ("pen", 9, 2), B, C])
        for pen, n in (("zed", 1), ("pen", 10), ("peo", 1)):
            self.check_both((pen, n, 1), [put(pen, n, 5, A, "x")], [A, (pen, n, 1), B, C])

    def test_loose_behind_a_slot_of_a_stroke_later_in_the_order(self):
        self.check_both(("ann", 1, 1), [put("ann", 1, 6, A, "x")], [A, ("ann", 1, 1), B, C])
        self.check_both(("ann", 1, 1), [move("ann", 1, 6, (A,), C)], [A, B, C, ("ann", 1, 1)])

    def test_loose_behind_a_slot_of_no_stroke(self):
        self.check_both(("ann", 1, 1), [], [A, B, C])
        self.check_both(old_slot(4), [], [A, B, C])
        self.check_both(("ann", 1, 3), [put("ann", 1, 1, A, "xy")], [A, ("ann", 1, 1), ("ann", 1, 2), B, C])
        self.check_both(("ann", 1, 2), [move("ann", 1, 1, (B,), A)], [A, ("ann", 1, 1), B, C])
        self.check_both(("ann", 1, 0), [put("ann", 1, 1, A, "x")], [A, ("ann", 1, 1), B, C])
        self.check_both(("ann", 2, 1), [put("ann", 1, 1, A, "x")], [A, ("ann", 1, 1), B, C])

    def test_loose_behind_a_slot_of_a_strike_or_a_dress(self):
        self.check_both(("ann", 1, 1), [strike("ann", 1, 1, (A,))], [A, B, C])
        self.check_both(("ann", 1, 1), [dress("ann", 1, 1, (A,), "bold")], [A, B, C])

    def test_loose_behind_a_slot_of_its_own(self):
        self.check_both(("pen", 9, 1), [], [A, B, C])
        self.check_both(("pen", 9, 2), [], [A, B, C])

    def test_loose_behind_a_loose_one_however_far(self):
        strokes = [put("a", 1, 1, ("z", 1, 1), "x"), put("b", 1, 2, ("a", 1, 1), "x"),
                   move("c", 1, 3, (A,), ("b", 1, 1)), put("d", 1, 4, ("c", 1, 1), "x")]
        self.assertEqual(slots_of("abc", strokes), [A, B, C])
        self.assertEqual(slots_of("abc", strokes + [put("z", 1, 5, A, "x")]), [A, ("z", 1, 1), B, C])
        self.assertEqual(slots_of("abc", strokes + [put("z", 1, 1, A, "x")]), [A, ("z", 1, 1), B, C])

    def test_two_that_are_anchored_to_one_another(self):
        strokes = [put("a", 1, 1, ("b", 1, 1), "x"), put("b", 1, 2, ("a", 1, 1), "x")]
        self.assertEqual(slots_of("abc", strokes), [A, B, C])

    def test_the_signs_that_a_move_names_have_no_say(self):
        for names in ((A, B), (("nobody", 1, 1), old_slot(9)), (("pen", 9, 1), ("zed", 1, 1))):
            self.assertEqual(slots_of("abc", [move("pen", 9, 5, names, B)]), [A, B, ("pen", 9, 1), ("pen", 9, 2), C])


class SeveralTest(unittest.TestCase):
    def test_of_several_behind_one_anchor_the_last_in_the_order_comes_first(self):
        strokes = [put("cyd", 1, 1, B, "xy"), move("bob", 3, 2, (A,), B), put("ann", 1, 3, B, "z")]
        row = [A, B, ("ann", 1, 1), ("bob", 3, 1), ("cyd", 1, 1), ("cyd", 1, 2), C]
        for told in itertools.permutations(strokes):
            self.assertEqual(slots_of("abc", list(told)), row)

    def test_several_behind_start(self):
        strokes = [put("ann", 2, 4, START, "x"), put("bob", 1, 4, START, "yz"), put("ann", 3, 4, START, "x")]
        row = [("bob", 1, 1), ("bob", 1, 2), ("ann", 3, 1), ("ann", 2, 1), A, B, C]
        for told in itertools.permutations(strokes):
            self.assertEqual(slots_of("abc", list(told)), row)

    def test_by_the_order_and_not_as_told(self):
        strokes = [put("z", 1, 1, A, "x"), put("y", 1, 2, ("z", 1, 1), "x"), put("x", 1, 3, ("y", 1, 1), "x")]
        row = [A, ("z", 1, 1), ("y", 1, 1), ("x", 1, 1), B]
        for told in itertools.permutations(strokes):
            self.assertEqual(slots_of("ab", list(told)), row)

    def test_strokes_told_twice(self):
        one, two = put("ann", 1, 1, A, "xy"), move("bob", 1, 2, (A,), ("ann", 1, 1))
        row = [A, ("ann", 1, 1), ("bob", 1, 1), ("ann", 1, 2), B]
        for told in itertools.permutations((one, one, two, two)):
            self.assertEqual(slots_of("ab", list(told)), row)

    def test_strikes_and_dresses_change_nothing(self):
        strokes = [put("ann", 1, 2, A, "xy"), move("bob", 1, 4, (A, B), B)]
        row = slots_of("abc", strokes)
        others = [strike("ann", 2, 1, (A, B)), dress("ann", 3, 3, (A, ("ann", 1, 1)), "bold"),
                  strike("bob", 2, 5, (("ann", 1, 1), C)), dress("bob", 3, 5, (("nobody", 1, 1),), "")]
        for many in range(len(others) + 1):
            for some in itertools.combinations(others, many):
                self.assertEqual(slots_of("abc", list(some) + strokes), row)
        self.assertEqual(slots_of("abc", others), [A, B, C])

    def test_any_strokes_in_any_order_are_as_the_words_tell(self):
        for seed in range(150):
            old = "abcdef"[:seed % 7]
            strokes = any_strokes(seed, old, 1 + seed % 13)
            with self.subTest(seed=seed):
                row = slots_by_the_words(old, strokes)
                self.assertEqual(slots_of(old, strokes), row)
                self.assertEqual(slots_of(old, jumbled(seed, strokes)), row)

    def test_sound_strokes_have_all_their_slots_in_the_row_each_once(self):
        for seed in range(60):
            old = "abcdef"[:seed % 7]
            strokes = sound_strokes(seed, old, 20)
            made = [slot for stroke in strokes for slot in slots_made_by(stroke)]
            row = slots_of(old, jumbled(seed, strokes))
            self.assertEqual(row, slots_by_the_words(old, strokes))
            self.assertEqual(sorted(row), sorted(made + slots_of(old, [])))

    def test_as_many_strokes_and_slots_as_are_promised(self):
        strokes = [put("ann", n, n, START if n == 1 else ("ann", n - 1, 2), "xyz") for n in range(1, 501)]
        row = slots_of("o" * 300, strokes)
        self.assertEqual(row, slots_by_the_words("o" * 300, strokes))
        self.assertEqual(len(row), 1800)


class LeftOutTest(unittest.TestCase):
    def kept_of(self, strokes, dropped, tied_to):
        """The strokes but for those dropped and all that are tied to them, however far."""
        gone = set(dropped)
        for row in in_order(strokes):
            if any(name in gone for name in tied_to(row)):
                gone.add(row[0])
        return [row for row in strokes if row[0] not in gone]

    def check_left_out(self, tied_to):
        for seed in range(150):
            old = "abcde"[:seed % 6]
            strokes = sound_strokes(seed, old, 18)
            dropped = [row[0] for row in some_of(seed, some_of(seed + 1000, strokes))]
            kept = self.kept_of(strokes, dropped, tied_to)
            stays = slots_of(old, []) + [slot for row in kept for slot in slots_made_by(row)]
            with self.subTest(seed=seed):
                whole = slots_of(old, strokes)
                self.assertEqual(slots_of(old, jumbled(seed, kept)), [slot for slot in whole if slot in stays])

    def test_left_out_with_all_that_lean_on_them(self):
        self.check_left_out(lambda row: stroke_of(row).leans())

    def test_left_out_with_all_that_are_anchored_to_them(self):
        def by_anchor(row):
            anchor = row[2][1] if row[2][0] == "put" else row[2][-1]
            return [anchor[:2]] if row[2][0] in ("put", "move") else []
        self.check_left_out(by_anchor)

    def test_slots_keep_their_order_as_strokes_are_added(self):
        for seed in range(40):
            strokes = in_order(sound_strokes(seed, "abc", 15))
            row = slots_of("abc", [])
            for many in range(1, len(strokes) + 1):
                longer = slots_of("abc", strokes[:many])
                self.assertEqual([slot for slot in longer if slot in row], row)
                row = longer


class OwnListsTest(unittest.TestCase):
    def test_what_is_handed_in_stays_and_what_is_told_is_the_askers_own(self):
        strokes = [put("bob", 1, 2, ("ann", 1, 1), "x"), put("ann", 1, 1, A, "x"), put("bob", 1, 2, ("ann", 1, 1), "x")]
        kept = list(strokes)
        row = [A, ("ann", 1, 1), ("bob", 1, 1), B]
        told = slots_of("ab", strokes)
        self.assertEqual(told, row)
        self.assertIsInstance(told, list)
        self.assertEqual(strokes, kept)
        told.clear()
        self.assertEqual(slots_of("ab", strokes), row)
        told = slots_of("ab", strokes)
        strokes.clear()
        self.assertEqual(told, row)


if __name__ == "__main__":
    unittest.main()
