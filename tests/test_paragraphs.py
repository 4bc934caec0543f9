import itertools
import unittest

from redquill.errors import OutOfPlace
from redquill.paper import Paper
from redquill.paragraphs import join, paragraph_at, paragraphs, runs
from redquill.readings import reading, text_of
from samples import all_told, old_slot

FAR = 10 ** 20 - 1


def plain_rows(text):
    return reading(text, [], [])


def worn_rows(*stretches):
    """A reading of stretches, each a text and the word that its signs wear."""
    signs = [(sign, word) for text, word in stretches for sign in text]
    return [(old_slot(k), sign, word) for k, (sign, word) in enumerate(signs, start=1)]


class ParagraphsTest(unittest.TestCase):
    def check(self, text, expected):
        self.assertEqual(paragraphs(plain_rows(text)), expected)

    def test_the_documents_own(self):
        self.check("", [(0, 0)])
        self.check("a\n\nb", [(0, 1), (2, 2), (3, 4)])

    def test_no_line_feed(self):
        self.check("a", [(0, 1)])
        self.check("abc", [(0, 3)])

    def test_line_feed_first_last_and_alone(self):
        self.check("\nab", [(0, 0), (1, 3)])
        self.check("ab\n", [(0, 2), (3, 3)])
        self.check("\n", [(0, 0), (1, 1)])

    def test_several_behind_one_another(self):
        self.check("\n\n\n", [(0, 0), (1, 1), (2, 2), (3, 3)])
        self.check("\n\nab\n\n\ncd\n\n", [(0, 0), (1, 1), (2, 4), (5, 5), (6, 6), (7, 9), (10, 10), (11, 11)])

    def test_words_names_and_a_written_backslash_n_have_no_say(self):
        self.assertEqual(paragraphs(worn_rows(("a", "bold"), ("b\n", ""), ("\\n", "n"))), [(0, 2), (3, 5)])

    def test_every_short_text(self):
        for many in range(7):
            for signs in itertools.product("a\n", repeat=many):
                text = "".join(signs)
                told = paragraphs(plain_rows(text))
                self.assertEqual([text[start:end] for start, end in told], text.split("\n"))
                self.assertEqual([end for start, end in told][:-1], [k for k in range(many) if text[k] == "\n"])
                self.assertEqual(told[-1][1], many)


class ParagraphAtTest(unittest.TestCase):
    def test_every_place_of_a_text(self):
        rows = plain_rows("ab\n\ncd\n")
        self.assertEqual([paragraph_at(rows, at) for at in range(8)], [0, 0, 0, 1, 2, 2, 2, 3])

    def test_at_nought(self):
        for text in ("", "a", "\n", "\na"):
            self.assertEqual(paragraph_at(plain_rows(text), 0), 0)

    def test_at_a_line_feed_behind_it_and_at_the_end(self):
        rows = plain_rows("a\nb")
        self.assertEqual(paragraph_at(rows, 1), 0)
        self.assertEqual(paragraph_at(rows, 2), 1)
        self.assertEqual(paragraph_at(rows, 3), 1)
        self.assertEqual(paragraph_at(plain_rows("\n\n"), 2), 2)
        self.assertEqual(paragraph_at(plain_rows("\n\n"), 1), 1)

    def test_a_sign_lies_in_its_paragraph(self):
        rows = plain_rows("\nab\n\nc\nd")
        for number, (start, end) in enumerate(paragraphs(rows)):
            for at in range(start, end + 1):
                self.assertEqual(paragraph_at(rows, at), number)

    def test_refused_outside(self):
        for text in ("", "a", "a\nb", "\n\n"):
            for at in (-1, -2, -len(text) - 1, -FAR, len(text) + 1, len(text) + 2, FAR):
                with self.assertRaises(OutOfPlace) as caught:
                    paragraph_at(plain_rows(text), at)
                self.assertEqual(caught.exception.at, at)


class RunsTest(unittest.TestCase):
    def test_no_rows_and_empty_paragraphs(self):
        self.assertEqual(runs([]), [])
        self.assertEqual(runs(plain_rows("\n")), [])
        self.assertEqual(runs(worn_rows(("\n", "bold"), ("\n\n", ""))), [])

    def test_one_word(self):
        self.assertEqual(runs(plain_rows("a")), [(0, 1, "")])
        self.assertEqual(runs(plain_rows("abc")), [(0, 3, "")])
        self.assertEqual(runs(worn_rows(("abc", "bold"))), [(0, 3, "bold")])

    def test_like_words_side_by_side_are_one_run(self):
        self.assertEqual(runs(worn_rows(("ab", "bold"), ("c", "bold"), ("d", ""), ("e", ""), ("f", "bold"))),
                         [(0, 3, "bold"), (3, 5, ""), (5, 6, "bold")])

    def test_each_sign_with_a_word_of_its_own(self):
        self.assertEqual(runs(worn_rows(("a", "x"), ("b", "y"), ("c", ""))), [(0, 1, "x"), (1, 2, "y"), (2, 3, "")])

    def test_like_words_on_both_sides_of_a_line_feed(self):
        for worn in ("bold", "", "small"):
            self.assertEqual(runs(worn_rows(("ab", "bold"), ("\n", worn), ("cd", "bold"))),
                             [(0, 2, "bold"), (3, 5, "bold")])
            self.assertEqual(runs(worn_rows(("ab", ""), ("\n\n", worn), ("c", ""))), [(0, 2, ""), (4, 5, "")])

    def test_unlike_words_on_both_sides_of_a_line_feed(self):
        for worn in ("bold", "", "small"):
            self.assertEqual(runs(worn_rows(("ab", "bold"), ("\n", worn), ("cd", ""))), [(0, 2, "bold"), (3, 5, "")])
            self.assertEqual(runs(worn_rows(("b", ""), ("\n", worn), ("cd", "small"), ("e", ""))),
                             [(0, 1, ""), (2, 4, "small"), (4, 5, "")])

    def test_line_feed_first_and_last(self):
        self.assertEqual(runs(worn_rows(("\n", ""), ("a", ""), ("b", "bold"), ("\n", "bold"))),
                         [(1, 2, ""), (2, 3, "bold")])

    def test_every_short_reading(self):
        for many in range(6):
            for signs in itertools.product((("a", ""), ("a", "w"), ("\n", ""), ("\n", "w")), repeat=many):
                told = runs(worn_rows(*signs))
                self.assertEqual([number for start, end, word in told for number in range(start, end)],
                                 [number for number in range(many) if signs[number][0] != "\n"])
                for start, end, word in told:
                    self.assertEqual({signs[number][1] for number in range(start, end)}, {word})
                for (start, end, word), (later, later_end, later_word) in zip(told, told[1:]):
                    self.assertTrue(end < later or word != later_word)


class OwnListsTest(unittest.TestCase):
    def test_what_is_handed_in_stays_and_what_is_told_is_the_askers_own(self):
        rows = worn_rows(("ab", "bold"), ("\n", ""), ("c", ""))
        kept = list(rows)
        paragraph_at(rows, 3)
        for tell in (paragraphs, runs):
            told = tell(rows)
            again = list(told)
            self.assertIsInstance(told, list)
            self.assertTrue(all(isinstance(row, tuple) for row in told))
            self.assertEqual(rows, kept)
            told.clear()
            self.assertEqual(tell(rows), again)


class JoinTest(unittest.TestCase):
    def setUp(self):
        # The view: "ab", "x", "", "cd", with signs put in, struck and moved on the way.
        self.paper = Paper("ab\ncde\n\n")
        self.paper.part("ann", 3)
        self.paper.put("bob", 3, "x")
        self.paper.strike("ann", 7, 8)
        self.paper.move("bob", 7, 8, 5)
        self.assertEqual(text_of(self.paper.view()), "ab\nx\n\ncd\n")
        self.paper.strike("ann", 8, 9)
        self.assertEqual(text_of(self.paper.view()), "ab\nx\n\ncd")

    def check_joined(self, number, struck, text):
        self.assertEqual(join(self.paper, "cyd", number), ("cyd", 1))
        self.assertEqual(self.paper.strokes()[-1], (("cyd", 1), 6, ("strike", (struck,))))
        self.assertEqual(text_of(self.paper.view()), text)
        self.assertEqual(self.paper.state(("cyd", 1)), "waits")

    def test_the_first(self):
        self.check_joined(0, old_slot(3), "abx\n\ncd")

    def test_a_middle_one(self):
        self.check_joined(1, ("ann", 1, 1), "ab\nx\ncd")

    def test_the_next_to_last(self):
        self.check_joined(2, old_slot(7), "ab\nx\ncd")

    def test_the_name_is_the_next_one_of_the_pen(self):
        self.assertEqual(join(self.paper, "ann", 2), ("ann", 4))
        self.assertEqual(join(self.paper, "bob", 0), ("bob", 3))
        self.assertEqual(join(self.paper, "ann", 0), ("ann", 5))
        self.assertEqual(text_of(self.paper.view()), "abxcd")

    def test_the_words_of_the_others_stay(self):
        self.paper.dress("ann", 1, 4, "bold")
        join(self.paper, "ann", 0)
        self.assertEqual([(sign, word) for name, sign, word in self.paper.view()][:4],
                         [("a", ""), ("b", "bold"), ("x", "bold"), ("\n", "")])

    def check_refused(self, paper, number):
        kept = all_told(paper)
        with self.assertRaises(OutOfPlace) as caught:
            join(paper, "cyd", number)
        self.assertEqual(caught.exception.at, number)
        self.assertEqual(all_told(paper), kept)

    def test_the_last_one_and_numbers_of_none_are_refused(self):
        for number in (3, 4, 5, FAR, -1, -2, -3, -4, -FAR):
            self.check_refused(self.paper, number)
        self.check_joined(2, old_slot(7), "ab\nx\ncd")
        self.check_refused(self.paper, 2)

    def test_a_paper_of_one_paragraph(self):
        for text in ("", "abc"):
            for number in (0, 1, -1):
                self.check_refused(Paper(text), number)

    def test_a_paper_that_ends_with_a_line_feed(self):
        paper = Paper("\n")
        self.check_refused(paper, 1)
        self.assertEqual(join(paper, "ann", 0), ("ann", 1))
        self.assertEqual(paper.view(), [])
        self.check_refused(paper, 0)


if __name__ == "__main__":
    unittest.main()
