import itertools
import unittest

from redquill.strokes import START, Dress, Move, Put, Strike, Stroke, in_order, stroke_of

LARGE = 10 ** 20 - 1
OLD_1 = ("", 0, 1)
OLD_2 = ("", 0, 2)
OLD_300 = ("", 0, 300)


class StartTest(unittest.TestCase):
    def test_start_is_its_tuple(self):
        self.assertEqual(START, ("", 0, 0))
        self.assertIsInstance(START, tuple)

    def test_start_is_ahead_of_the_old_slots(self):
        self.assertLess(START, OLD_1)


class ClassesTest(unittest.TestCase):
    def test_the_four_stand_under_stroke(self):
        for kind in (Put, Strike, Dress, Move):
            self.assertTrue(issubclass(kind, Stroke))
            self.assertIsNot(kind, Stroke)

    def test_none_of_the_four_stands_under_another(self):
        for one, other in itertools.permutations((Put, Strike, Dress, Move), 2):
            self.assertFalse(issubclass(one, other))


class PlainStrokeTest(unittest.TestCase):
    def test_it_makes_touches_and_leans_on_nothing(self):
        stroke = Stroke(("ann", 1), 1)
        self.assertEqual(stroke.slots(), [])
        self.assertEqual(stroke.touched(), [])
        self.assertEqual(stroke.leans(), [])


class PutTest(unittest.TestCase):
    def test_one_sign_makes_one_slot(self):
        self.assertEqual(Put(("ann", 2), 5, START, "x").slots(), [("ann", 2, 1)])

    def test_many_signs_make_a_slot_each(self):
        put = Put(("bob", 7), 5, OLD_1, "a\nb\\a")
        self.assertEqual(put.slots(), [("bob", 7, k) for k in (1, 2, 3, 4, 5)])

    def test_sixty_signs(self):
        put = Put(("z", LARGE), LARGE, OLD_1, "s" * 60)
        self.assertEqual(put.slots(), [("z", LARGE, k) for k in range(1, 61)])

    def test_it_touches_none(self):
        self.assertEqual(Put(("ann", 2), 5, ("bob", 1, 1), "xy").touched(), [])

    def test_it_leans_on_the_stroke_of_its_anchor(self):
        self.assertEqual(Put(("ann", 2), 5, ("bob", 3, 4), "xy").leans(), [("bob", 3)])
        self.assertEqual(Put(("ann", 2), 5, ("ann", 1, 4), "xy").leans(), [("ann", 1)])

    def test_it_leans_on_nothing_by_an_old_anchor_or_start(self):
        for anchor in (START, OLD_1, OLD_300):
            self.assertEqual(Put(("ann", 2), 5, anchor, "xy").leans(), [])

    def test_row(self):
        row = (("ann", 2), 5, ("put", ("bob", 3, 4), "x\ny"))
        self.assertEqual(Put(("ann", 2), 5, ("bob", 3, 4), "x\ny").row(), row)
        row = (("ann", 2), 5, ("put", START, "x"))
        self.assertEqual(Put(("ann", 2), 5, START, "x").row(), row)


MIXED = (("cyd", 2, 1), OLD_2, ("ann", 10, 3), ("cyd", 2, 2), ("ann", 9, 1), OLD_1, ("an", 11, 1), ("ann", 10, 1))
MIXED_STROKES = [("an", 11), ("ann", 9), ("ann", 10), ("cyd", 2)]


class StrikeTest(unittest.TestCase):
    def test_it_makes_no_slots(self):
        self.assertEqual(Strike(("ann", 2), 5, (OLD_1,)).slots(), [])
        self.assertEqual(Strike(("ann", 2), 5, MIXED).slots(), [])

    def test_it_touches_its_names_as_told(self):
        self.assertEqual(Strike(("ann", 2), 5, (OLD_1,)).touched(), [OLD_1])
        self.assertEqual(Strike(("ann", 2), 5, MIXED).touched(), list(MIXED))

    def test_it_leans_on_nothing_by_old_signs(self):
        self.assertEqual(Strike(("ann", 2), 5, (OLD_1,)).leans(), [])
        self.assertEqual(Strike(("ann", 2), 5, (OLD_300, OLD_1)).leans(), [])

    def test_it_leans_on_the_strokes_of_its_names_sorted_each_once(self):
        self.assertEqual(Strike(("ann", 12), 5, (("bob", 1, 6),)).leans(), [("bob", 1)])
        self.assertEqual(Strike(("ann", 12), 5, MIXED).leans(), MIXED_STROKES)

    def test_row(self):
        self.assertEqual(Strike(("ann", 2), 5, (OLD_1,)).row(), (("ann", 2), 5, ("strike", (OLD_1,))))
        self.assertEqual(Strike(("ann", 2), 5, MIXED).row(), (("ann", 2), 5, ("strike", MIXED)))


class DressTest(unittest.TestCase):
    def test_it_makes_no_slots(self):
        self.assertEqual(Dress(("ann", 2), 5, (OLD_1,), "bold").slots(), [])
        self.assertEqual(Dress(("ann", 2), 5, MIXED, "").slots(), [])

    def test_it_touches_its_names_as_told(self):
        self.assertEqual(Dress(("ann", 2), 5, (OLD_1,), "bold").touched(), [OLD_1])
        self.assertEqual(Dress(("ann", 2), 5, MIXED, "").touched(), list(MIXED))

    def test_it_leans_on_nothing_by_old_signs(self):
        self.assertEqual(Dress(("ann", 2), 5, (OLD_2, OLD_1), "bold").leans(), [])

    def test_it_leans_on_the_strokes_of_its_names_sorted_each_once(self):
        self.assertEqual(Dress(("ann", 12), 5, (("bob", 1, 6),), "bold").leans(), [("bob", 1)])
        self.assertEqual(Dress(("ann", 12), 5, MIXED, "bold").leans(), MIXED_STROKES)

    def test_row(self):
        row = (("ann", 2), 5, ("dress", (OLD_1,), "bold"))
        self.assertEqual(Dress(("ann", 2), 5, (OLD_1,), "bold").row(), row)
        row = (("ann", 2), 5, ("dress", MIXED, ""))
        self.assertEqual(Dress(("ann", 2), 5, MIXED, "").row(), row)


class MoveTest(unittest.TestCase):
    def test_it_makes_a_slot_for_each_name(self):
        self.assertEqual(Move(("ann", 2), 5, (OLD_1,), START).slots(), [("ann", 2, 1)])
        self.assertEqual(Move(("ann", 12), 5, MIXED, START).slots(), [("ann", 12, k) for k in range(1, 9)])

    def test_it_touches_its_names_as_told_and_not_its_anchor(self):
        self.assertEqual(Move(("ann", 2), 5, (OLD_1,), OLD_2).touched(), [OLD_1])
        self.assertEqual(Move(("ann", 12), 5, MIXED, ("bob", 1, 1)).touched(), list(MIXED))

    def test_it_leans_on_nothing_by_what_is_old_and_start(self):
        self.assertEqual(Move(("ann", 2), 5, (OLD_1, OLD_300), START).leans(), [])
        self.assertEqual(Move(("ann", 2), 5, (OLD_1,), OLD_2).leans(), [])

    def test_it_leans_by_its_anchor_alone(self):
        self.assertEqual(Move(("ann", 2), 5, (OLD_1,), ("bob", 1, 1)).leans(), [("bob", 1)])

    def test_it_leans_by_its_names_alone(self):
        self.assertEqual(Move(("ann", 12), 5, MIXED, START).leans(), MIXED_STROKES)
        self.assertEqual(Move(("ann", 12), 5, MIXED, OLD_300).leans(), MIXED_STROKES)

    def test_it_leans_by_both_sorted_each_once(self):
        self.assertEqual(Move(("ann", 12), 5, MIXED, ("cyd", 2, 9)).leans(), MIXED_STROKES)
        self.assertEqual(Move(("ann", 12), 5, MIXED, ("bob", 4, 1)).leans(),
                         [("an", 11), ("ann", 9), ("ann", 10), ("bob", 4), ("cyd", 2)])
        self.assertEqual(Move(("ann", 12), 5, (("bob", 1, 2),), ("bob", 1, 1)).leans(), [("bob", 1)])

    def test_row(self):
        row = (("ann", 2), 5, ("move", (OLD_1,), START))
        self.assertEqual(Move(("ann", 2), 5, (OLD_1,), START).row(), row)
        row = (("ann", 2), 5, ("move", MIXED, ("bob", 1, 1)))
        self.assertEqual(Move(("ann", 2), 5, MIXED, ("bob", 1, 1)).row(), row)


class StrokeOfTest(unittest.TestCase):
    def test_the_class_by_the_acts_word_and_the_same_tuple_again(self):
        acts = (
            (Put, ("put", START, "x")), (Put, ("put", ("bob", 1, 3), "strike\n\\")),
            (Strike, ("strike", (OLD_1,))), (Strike, ("strike", MIXED)),
            (Dress, ("dress", (OLD_1,), "")), (Dress, ("dress", MIXED, "put")), (Dress, ("dress", (OLD_2,), "move")),
            (Move, ("move", (OLD_1,), START)), (Move, ("move", MIXED, ("bob", 1, 3))),
        )
        for name, time in ((("a", 1), 1), (("abcdefgh", LARGE), LARGE)):
            for kind, act in acts:
                with self.subTest(act=act, name=name):
                    stroke = stroke_of((name, time, act))
                    self.assertIs(type(stroke), kind)
                    self.assertEqual(stroke.row(), (name, time, act))

    def test_it_tells_what_one_made_by_hand_tells(self):
        by_hand = (
            Put(("ann", 12), 5, ("bob", 1, 1), "xyz"), Strike(("ann", 12), 5, MIXED),
            Dress(("ann", 12), 5, MIXED, "bold"), Move(("ann", 12), 5, MIXED, ("bob", 1, 1)),
        )
        for stroke in by_hand:
            again = stroke_of(stroke.row())
            self.assertEqual(again.slots(), stroke.slots())
            self.assertEqual(again.touched(), stroke.touched())
            self.assertEqual(again.leans(), stroke.leans())


class ToldListsTest(unittest.TestCase):
    def test_a_told_list_that_is_changed_changes_no_later_answer(self):
        strokes = (
            Stroke(("ann", 12), 5), Put(("ann", 12), 5, ("bob", 1, 1), "xyz"), Strike(("ann", 12), 5, MIXED),
            Dress(("ann", 12), 5, MIXED, "bold"), Move(("ann", 12), 5, MIXED, ("bob", 1, 1)),
        )
        for stroke in strokes:
            for tell in (stroke.slots, stroke.touched, stroke.leans):
                with self.subTest(tell=tell):
                    first = tell()
                    self.assertIsInstance(first, list)
                    kept = list(first)
                    first.append(("zed", 1, 1))
                    first.reverse()
                    self.assertEqual(tell(), kept)


def put_row(pen, number, time):
    return ((pen, number), time, ("put", START, "x"))


class InOrderTest(unittest.TestCase):
    def check_every_arrangement(self, rows):
        for arrangement in itertools.permutations(rows):
            self.assertEqual(in_order(list(arrangement)), rows)

    def test_no_strokes(self):
        self.assertEqual(in_order([]), [])

    def test_one_stroke(self):
        self.assertEqual(in_order([put_row("ann", 1, 1)]), [put_row("ann", 1, 1)])

    def test_by_time_ahead_of_pen_and_number(self):
        self.check_every_arrangement([put_row("zed", 9, 1), put_row("bob", 5, 2), put_row("ann", 1, 10)])

    def test_like_times_by_pen_ahead_of_number(self):
        self.check_every_arrangement([put_row("ann", 9, 4), put_row("bob", 5, 4), put_row("zed", 1, 4)])

    def test_like_times_and_pens_by_number(self):
        self.check_every_arrangement([put_row("ann", n, 4) for n in (1, 2, 9, 10, 11)])

    def test_like_numbers(self):
        self.check_every_arrangement([put_row("bob", 3, 1), put_row("ann", 3, 2), put_row("cyd", 3, 2)])

    def test_pens_that_are_the_beginning_of_one_another(self):
        self.check_every_arrangement([put_row(pen, n, 4) for pen, n in (("a", 9), ("ab", 8), ("abc", 7), ("b", 6))])

    def test_the_number_may_fall_as_the_time_rises(self):
        self.check_every_arrangement([put_row("ann", 3, 1), put_row("ann", 2, 2), put_row("ann", 1, 3)])

    def test_the_act_has_no_say(self):
        rows = [
            (("ann", 1), 1, ("strike", (OLD_1,))), (("ann", 2), 1, ("put", START, "x")),
            (("bob", 1), 1, ("move", (OLD_1,), START)), (("bob", 2), 1, ("dress", (OLD_1,), "")),
        ]
        self.check_every_arrangement(rows)

    def test_large_numbers_and_times(self):
        self.check_every_arrangement([
            put_row("bob", LARGE, 9), put_row("ann", 9, LARGE - 1),
            put_row("ann", 9 * 10 ** 18, LARGE), put_row("ann", LARGE - 1, LARGE), put_row("ann", LARGE, LARGE),
        ])

    def test_strokes_told_twice_are_told_once(self):
        one, two, three = put_row("zed", 1, 1), put_row("ann", 1, 2), put_row("ann", 2, 2)
        for arrangement in itertools.permutations((one, one, two, two, three)):
            self.assertEqual(in_order(list(arrangement)), [one, two, three])

    def test_a_stroke_told_twice_by_tuples_of_its_own(self):
        self.assertEqual(in_order([put_row("ann", 1, 2), put_row("ann", 1, 2)]), [put_row("ann", 1, 2)])

    def test_like_acts_of_unlike_names_are_all_told(self):
        rows = [put_row("ann", n, 1) for n in range(1, 4)] + [put_row("bob", n, 1) for n in range(1, 4)]
        self.assertEqual(in_order(list(reversed(rows))), rows)

    def test_every_pair_of_small_strokes(self):
        rows = [put_row(pen, n, time) for pen in ("a", "aa", "b") for n in (1, 2, 10) for time in (1, 2, 10)]
        for one, other in itertools.permutations(rows, 2):
            if one[0] != other[0]:
                ahead = (one[1], one[0][0], one[0][1]) < (other[1], other[0][0], other[0][1])
                self.assertEqual(in_order([one, other]), [one, other] if ahead else [other, one])

    def test_the_list_handed_in_stays_as_it_was(self):
        rows = [put_row("zed", 1, 3), put_row("ann", 1, 2), put_row("zed", 1, 3)]
        kept = list(rows)
        told = in_order(rows)
        self.assertEqual(rows, kept)
        told.append(put_row("bob", 1, 1))
        told.reverse()
        self.assertEqual(rows, kept)
        self.assertEqual(in_order(rows), [put_row("ann", 1, 2), put_row("zed", 1, 3)])

    def test_a_list_already_in_order_is_told_as_a_new_one(self):
        rows = [put_row("ann", 1, 1), put_row("ann", 2, 2)]
        self.assertIsNot(in_order(rows), rows)

    def test_changing_the_list_handed_in_changes_nothing_told(self):
        rows = [put_row("zed", 1, 3), put_row("ann", 1, 2)]
        told = in_order(rows)
        rows.clear()
        self.assertEqual(told, [put_row("ann", 1, 2), put_row("zed", 1, 3)])


if __name__ == "__main__":
    unittest.main()
