import itertools
import re
import unittest

from redquill.errors import NoRow
from redquill.words import (check_form, dress_of, letters_of, name_of, noted_words_of, number_of, old_signs_of, part_of,
                            put_signs_of, signs_of, slot_of, words_of, written_dress, written_list, written_name,
                            written_names, written_signs)

NOT_LETTERS = ("", "A", "a1", "a b", " a", "a ", "a-", "-", "a.b", "abcdefghi", "\u00e9", "\u00df", "a\n", "\n")
NOT_FIGURES = ("", "00", "01", "007", "-1", "+1", "1_0", " 1", "1 ", "1\n", "0x1", "1.0", "a", "\u0661", "\u00b2", "-0")
NOT_SIGNS = ("\\", "a\\", "\\x", "\\\\\\", "\\\\\\x", "\\N", "\\ n", "\\n\\", "a\nb", "\n", "\t", "\r", "\x7f",
             "\u00e9", "50%", "\x1f")


class Refusing(unittest.TestCase):
    def assertRefused(self, reader, *arguments):
        with self.assertRaises(NoRow, msg=repr(arguments)):
            reader(*arguments)


class SignsTest(Refusing):
    def test_written(self):
        for signs, words in (("", ""), ("ab c", "ab c"), ("\n", "\\n"), ("\\", "\\\\"), ("\\n", "\\\\n"),
                             ("\\\n", "\\\\\\n"), ("\n\\", "\\n\\\\"), ("\n\n", "\\n\\n"), (" ~", " ~"),
                             ("\\\\n", "\\\\\\\\n"), ("n\n", "n\\n"), ("'\"", "'\"")):
            self.assertEqual(written_signs(signs), words)
            self.assertEqual(signs_of(words), signs)

    def test_all_short_texts_are_read_as_written(self):
        for length in range(7):
            for signs in itertools.product("\\n\n", repeat=length):
                self.assertEqual(signs_of(written_signs("".join(signs))), "".join(signs))

    def test_all_short_rows_are_read_or_refused(self):
        for length in range(7):
            for words in map("".join, itertools.product("\\nx", repeat=length)):
                if re.fullmatch(r"(\\\\|\\n|n|x)*", words):
                    self.assertEqual(written_signs(signs_of(words)), words)
                else:
                    self.assertRefused(signs_of, words)

    def test_every_sign(self):
        for code in range(256):
            sign = chr(code)
            if " " <= sign <= "~" and sign not in "%\\":
                self.assertEqual(signs_of(sign), sign)
                self.assertEqual(noted_words_of(sign), sign)
            else:
                self.assertRefused(signs_of, sign)

    def test_what_is_not_written_so(self):
        for words in NOT_SIGNS:
            for reader in (signs_of, put_signs_of, old_signs_of):
                self.assertRefused(reader, words)

    def test_how_many_signs(self):
        self.assertRefused(put_signs_of, "")
        self.assertEqual(old_signs_of(""), "")
        self.assertEqual(signs_of(""), "")
        for sign, word in (("a", "a"), ("\n", "\\n"), ("\\", "\\\\"), (" ", " ")):
            self.assertEqual(put_signs_of(word), sign)
            self.assertEqual(put_signs_of(word * 60), sign * 60)
            self.assertRefused(put_signs_of, word * 61)
            self.assertEqual(old_signs_of(word * 300), sign * 300)
            self.assertRefused(old_signs_of, word * 301)
            self.assertEqual(signs_of(word * 301), sign * 301)

    def test_the_words_of_notes(self):
        for words in ("a", " ", "  a ", "\\", "\\n", "\\x", "{ | }", "a" * 40, "\\" * 40):
            self.assertEqual(noted_words_of(words), words)
        for words in ("", "a" * 41, "a\nb", "\n", "\t", "\u00e9"):
            self.assertRefused(noted_words_of, words)


class WordsTest(Refusing):
    def test_words_of_a_row(self):
        self.assertEqual(words_of("a b c", 3), ["a", "b", "c"])
        self.assertEqual(words_of("a b c d", 3), ["a", "b", "c d"])
        self.assertEqual(words_of("a b ", 3), ["a", "b", ""])
        self.assertEqual(words_of("a  b", 3), ["a", "", "b"])
        self.assertEqual(words_of("", 1), [""])
        for row in ("a b", "a", ""):
            self.assertRefused(words_of, row, 3)

    def test_a_form_that_is_good_or_not(self):
        self.assertIsNone(check_form(True))
        self.assertRefused(check_form, False)

    def test_small_letters(self):
        for word in ("a", "z", "ann", "abcdefgh"):
            self.assertEqual(letters_of(word), word)
            self.assertEqual(dress_of(word), word)
        for word in NOT_LETTERS:
            self.assertRefused(letters_of, word)
        for word in set(NOT_LETTERS) - {"-"}:
            self.assertRefused(dress_of, word)

    def test_the_plain_word(self):
        self.assertEqual(dress_of("-"), "")
        self.assertEqual(written_dress(""), "-")
        self.assertEqual(written_dress("bold"), "bold")
        self.assertRefused(dress_of, "--")

    def test_lists(self):
        self.assertEqual(written_list([], ","), "-")
        self.assertEqual(written_list(["a"], ","), "a")
        self.assertEqual(written_list(["a", "b", "c"], " | "), "a | b | c")
        self.assertEqual(written_names([], " "), "-")
        self.assertEqual(written_names([("ann", 1), ("bob", 12)], " "), "ann.1 bob.12")
        self.assertEqual(written_names((("", 0, 1), ("bob", 2, 3)), ","), ".0.1,bob.2.3")


class NumbersTest(Refusing):
    def test_numbers(self):
        for number in (0, 1, 9, 10, 100, 123456789012, 999999999999):
            self.assertEqual(number_of(str(number)), number)
        for word in NOT_FIGURES + ("1000000000000", "000000000000", "0" * 13):
            self.assertRefused(number_of, word)


class NamesTest(Refusing):
    def test_names_of_strokes(self):
        for name, word in ((("ann", 1), "ann.1"), (("a", 10), "a.10"),
                           (("abcdefgh", 999999999999), "abcdefgh.999999999999"),
                           (("ann", 10 ** 19), "ann.10000000000000000000")):
            self.assertEqual(written_name(name), word)
            self.assertEqual(name_of(word), name)
        for word in ("", ".", "ann", "ann.", ".1", "ann.0", "ann.1.1", "ann.1.", "ann..1", ".ann.1", "ann1", "-.1",
                     "ann,1"):
            self.assertRefused(name_of, word)
        for pen in NOT_LETTERS:
            self.assertRefused(name_of, f"{pen}.1")
        for number in NOT_FIGURES + ("9" * 21, "9" * 5000):
            self.assertRefused(name_of, f"ann.{number}")

    def test_slots(self):
        for slot, word in ((("", 0, 0), ".0.0"), (("", 0, 12), ".0.12"), (("ann", 1, 1), "ann.1.1"),
                           (("abcdefgh", 30, 60), "abcdefgh.30.60")):
            self.assertEqual(written_name(slot), word)
            self.assertEqual(slot_of(word), slot)
        for word in ("", ".", "..", "ann.1", ".0", ".0.", "..0", "ann.1.1.1", "ann..1", "0.0", ".0.0.", " .0.0",
                     ".0.0 "):
            self.assertRefused(slot_of, word)
        for pen in set(NOT_LETTERS) - {""}:
            self.assertRefused(slot_of, f"{pen}.1.1")
        for number in NOT_FIGURES + ("9" * 21, "9" * 5000):
            self.assertRefused(slot_of, f"ann.{number}.1")
            self.assertRefused(slot_of, f"ann.1.{number}")
            self.assertRefused(slot_of, f".0.{number}")
            self.assertRefused(slot_of, f".{number}.1")


class PartsTest(Refusing):
    def test_each_kind_of_part(self):
        for kinds, good, value, bad in (
            (("KEY", "PEN"), "ann", "ann", NOT_LETTERS),
            (("NAME", "NOTE"), "ann.2", ("ann", 2), ("ann", "ann.1.1", "ann.0")),
            (("AT", "TO", "GOAL", "NUMBER", "BITS"), "12", 12, NOT_FIGURES + ("1" * 13,)),
            (("WORD",), "bold", "bold", ("", "Bold", "boldbolds")),
            (("WORD",), "-", "", ("--",)),
            (("SIGNS",), "a\\nb", "a\nb", NOT_SIGNS + ("", "a" * 61)),
            (("OLD",), "", "", NOT_SIGNS + ("a" * 301,)),
            (("WORDS",), "a\\b", "a\\b", ("", "a" * 41, "a\nb")),
        ):
            for kind in kinds:
                self.assertEqual(part_of(kind, good), value)
                for word in bad:
                    self.assertRefused(part_of, kind, word)


if __name__ == "__main__":
    unittest.main()
