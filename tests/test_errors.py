import unittest

from redquill import errors
from redquill.errors import (
    Decided, Leaned, NoNote, NoPaper, NoRow, NoStroke, NotYours, OtherText, OutOfPlace, QuillError, TooDeep, Twice,
)

REFUSALS = (
    OutOfPlace, NoStroke, Decided, NotYours, Twice, Leaned, OtherText, NoNote, TooDeep, NoPaper, NoRow,
)


class StandingTest(unittest.TestCase):
    def test_quill_error_stands_straight_under_value_error(self):
        self.assertEqual(QuillError.__bases__, (ValueError,))

    def test_each_refusal_stands_straight_under_quill_error(self):
        for refusal in REFUSALS:
            with self.subTest(refusal=refusal.__name__):
                self.assertEqual(refusal.__bases__, (QuillError,))

    def test_no_refusal_stands_under_another(self):
        for one in REFUSALS:
            for other in REFUSALS:
                if one is not other:
                    self.assertFalse(issubclass(one, other))

    def test_the_module_defines_these_classes_and_no_others(self):
        defined = {name for name, value in vars(errors).items() if isinstance(value, type)}
        self.assertEqual(defined, {refusal.__name__ for refusal in REFUSALS} | {"QuillError"})


class FieldsTest(unittest.TestCase):
    def test_out_of_place_tells_at(self):
        for at in (-1, 0, 10 ** 20 - 1):
            self.assertEqual(OutOfPlace(at).at, at)

    def test_refusals_of_a_stroke_tell_its_name(self):
        for refusal in (NoStroke, Decided, NotYours, Twice):
            with self.subTest(refusal=refusal.__name__):
                self.assertEqual(refusal(("ann", 3)).stroke, ("ann", 3))

    def test_leaned_tells_a_list_of_names(self):
        self.assertEqual(Leaned([("bob", 2), ("ann", 1)]).leaning, [("bob", 2), ("ann", 1)])

    def test_leaned_keeps_a_list_of_its_own(self):
        names = [("ann", 1)]
        refusal = Leaned(names)
        names.append(("bob", 1))
        self.assertEqual(refusal.leaning, [("ann", 1)])
        refusal.leaning.append(("cyd", 1))
        self.assertEqual(names, [("ann", 1), ("bob", 1)])

    def test_refusals_of_a_note_tell_its_name(self):
        for refusal in (NoNote, TooDeep):
            with self.subTest(refusal=refusal.__name__):
                self.assertEqual(refusal(("ann", 3)).name, ("ann", 3))

    def test_no_paper_tells_the_number_of_a_row(self):
        self.assertEqual(NoPaper(4).number, 4)

    def test_the_others_are_made_of_nothing(self):
        for refusal in (QuillError, OtherText, NoRow):
            with self.subTest(refusal=refusal.__name__):
                self.assertIsInstance(refusal(), QuillError)

    def test_each_is_raised_and_taken_as_a_quill_error(self):
        made = (
            OutOfPlace(1), NoStroke(("a", 1)), Decided(("a", 1)), NotYours(("a", 1)), Twice(("a", 1)),
            Leaned([]), OtherText(), NoNote(("a", 1)), TooDeep(("a", 1)), NoPaper(0), NoRow(),
        )
        for refusal in made:
            with self.subTest(refusal=repr(refusal)):
                with self.assertRaises(QuillError) as caught:
                    raise refusal
                self.assertIs(caught.exception, refusal)


if __name__ == "__main__":
    unittest.main()
