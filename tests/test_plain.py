import itertools
import unittest

from redquill.errors import OutOfPlace
from redquill.plain import Plain

FAR = 10 ** 20 - 1


def text_of(plain):
    return "".join(sign for sign, word in plain.rows())


def words_of(plain):
    return [word for sign, word in plain.rows()]


class BeginningTest(unittest.TestCase):
    def test_the_signs_of_the_text_wear_none(self):
        self.assertEqual(Plain("a\nb").rows(), [("a", ""), ("\n", ""), ("b", "")])

    def test_the_text_without_signs(self):
        self.assertEqual(Plain("").rows(), [])


class PutTest(unittest.TestCase):
    def check(self, text, at, signs, result):
        plain = Plain(text)
        plain.put(at, signs)
        self.assertEqual(text_of(plain), result)

    def test_at_the_start(self):
        self.check("abc", 0, "xy", "xyabc")

    def test_in_the_middle(self):
        self.check("abc", 1, "xy", "axybc")
        self.check("abc", 2, "\n", "ab\nc")

    def test_at_the_end(self):
        self.check("abc", 3, "xy", "abcxy")

    def test_in_the_text_without_signs(self):
        self.check("", 0, "xy", "xy")

    def test_signs_put_in_wear_none_and_the_others_keep_their_words(self):
        plain = Plain("abc")
        plain.dress(0, 3, "bold")
        plain.put(1, "xy")
        self.assertEqual(plain.rows(), [("a", "bold"), ("x", ""), ("y", ""), ("b", "bold"), ("c", "bold")])

    def test_each_put_counts_the_signs_as_they_are_by_then(self):
        plain = Plain("")
        for at, signs in ((0, "b"), (0, "a"), (2, "d"), (2, "c")):
            plain.put(at, signs)
        self.assertEqual(text_of(plain), "abcd")


class StrikeTest(unittest.TestCase):
    def check(self, at, to, result):
        plain = Plain("abcd")
        plain.strike(at, to)
        self.assertEqual(text_of(plain), result)

    def test_at_the_start(self):
        self.check(0, 1, "bcd")
        self.check(0, 2, "cd")

    def test_in_the_middle(self):
        self.check(1, 2, "acd")
        self.check(1, 3, "ad")

    def test_at_the_end(self):
        self.check(3, 4, "abc")
        self.check(2, 4, "ab")

    def test_all(self):
        self.check(0, 4, "")

    def test_the_others_keep_their_words(self):
        plain = Plain("abcd")
        plain.dress(1, 3, "bold")
        plain.strike(1, 2)
        self.assertEqual(plain.rows(), [("a", ""), ("c", "bold"), ("d", "")])


class DressTest(unittest.TestCase):
    def check(self, at, to, words):
        plain = Plain("abcd")
        plain.dress(at, to, "bold")
        self.assertEqual(words_of(plain), words)
        self.assertEqual(text_of(plain), "abcd")

    def test_at_the_start(self):
        self.check(0, 1, ["bold", "", "", ""])
        self.check(0, 2, ["bold", "bold", "", ""])

    def test_in_the_middle(self):
        self.check(2, 3, ["", "", "bold", ""])
        self.check(1, 3, ["", "bold", "bold", ""])

    def test_at_the_end(self):
        self.check(3, 4, ["", "", "", "bold"])
        self.check(2, 4, ["", "", "bold", "bold"])

    def test_all(self):
        self.check(0, 4, ["bold"] * 4)

    def test_whatever_they_wore(self):
        plain = Plain("abc")
        plain.dress(0, 2, "bold")
        plain.dress(1, 3, "italic")
        self.assertEqual(words_of(plain), ["bold", "italic", "italic"])

    def test_none_by_the_empty_word(self):
        plain = Plain("abc")
        plain.dress(0, 3, "bold")
        plain.dress(1, 2, "")
        self.assertEqual(words_of(plain), ["bold", "", "bold"])

    def test_none_without_a_word(self):
        plain = Plain("abc")
        plain.dress(0, 3, "bold")
        plain.dress(1, 3)
        self.assertEqual(words_of(plain), ["bold", "", ""])

    def test_by_the_arguments_name(self):
        plain = Plain("abc")
        plain.dress(at=0, to=1, word="bold")
        self.assertEqual(words_of(plain), ["bold", "", ""])

    def test_a_line_feed_is_dressed_too(self):
        plain = Plain("a\nb")
        plain.dress(1, 2, "bold")
        self.assertEqual(plain.rows(), [("a", ""), ("\n", "bold"), ("b", "")])


class MoveTest(unittest.TestCase):
    def check(self, at, to, goal, result):
        plain = Plain("abcdef")
        plain.move(at, to, goal)
        self.assertEqual(text_of(plain), result)

    def test_the_documents_own_examples(self):
        self.check(1, 3, 5, "adebcf")
        self.check(3, 5, 1, "adebcf")
        self.check(1, 3, 2, "abcdef")

    def test_goal_ahead_of_the_stretch(self):
        self.check(2, 4, 0, "cdabef")
        self.check(4, 6, 3, "abcefd")

    def test_goal_within_the_stretch_and_at_its_ends_changes_nothing(self):
        for goal in (1, 2, 3, 4):
            self.check(1, 4, goal, "abcdef")
        for goal in range(7):
            self.check(0, 6, goal, "abcdef")

    def test_goal_behind_the_stretch(self):
        self.check(0, 2, 3, "cabdef")
        self.check(2, 4, 6, "abefcd")

    def test_words_go_with_moved_signs(self):
        plain = Plain("abcdef")
        plain.dress(1, 2, "bold")
        plain.dress(2, 3, "italic")
        plain.dress(4, 5, "small")
        plain.move(1, 3, 5)
        self.assertEqual(plain.rows(),
                         [("a", ""), ("d", ""), ("e", "small"), ("b", "bold"), ("c", "italic"), ("f", "")])

    def test_every_stretch_and_goal_of_small_texts(self):
        for length in range(1, 7):
            for at, to in itertools.combinations(range(length + 1), 2):
                for goal in range(length + 1):
                    plain = Plain("abcdef"[:length])
                    plain.dress(at, to, "bold")
                    ahead = [k for k in range(length) if k < goal and not at <= k < to]
                    moved = list(range(at, to))
                    behind = [k for k in range(length) if k not in ahead + moved]
                    rows = plain.rows()
                    plain.move(at, to, goal)
                    self.assertEqual(plain.rows(), [rows[k] for k in ahead + moved + behind])


class BesideTest(unittest.TestCase):
    def test_two_plain_texts_change_each_other_in_nothing(self):
        one, other = Plain("abcdef"), Plain("abcdef")
        one.put(0, "x")
        one.dress(0, 3, "bold")
        one.move(0, 2, 7)
        one.strike(0, 1)
        self.assertEqual(other.rows(), [(sign, "") for sign in "abcdef"])
        kept = one.rows()
        other.strike(0, 6)
        other.put(0, "zzz")
        other.dress(0, 3, "small")
        self.assertEqual(one.rows(), kept)
        self.assertEqual(Plain("").rows(), [])

    def test_a_told_list_is_new_and_the_askers_own(self):
        plain = Plain("abc")
        told = plain.rows()
        told.reverse()
        told.append(("x", "bold"))
        self.assertEqual(plain.rows(), [("a", ""), ("b", ""), ("c", "")])
        told = plain.rows()
        plain.dress(0, 3, "bold")
        plain.put(0, "x")
        plain.move(0, 1, 4)
        plain.strike(0, 1)
        self.assertEqual(told, [("a", ""), ("b", ""), ("c", "")])


class RefusalTest(unittest.TestCase):
    def check_refused(self, plain, deed, numbers, field):
        kept = plain.rows()
        with self.assertRaises(OutOfPlace) as caught:
            deed(plain, *numbers)
        self.assertEqual(caught.exception.at, field)
        self.assertEqual(plain.rows(), kept)

    def dressed(self, text):
        plain = Plain(text)
        if text:
            plain.dress(0, 1, "bold")
        return plain

    def test_put(self):
        for text in ("", "a", "abcd"):
            for at in (-FAR, -2, -1, len(text) + 1, len(text) + 2, FAR):
                plain = self.dressed(text)
                self.check_refused(plain, lambda p, n: p.put(n, "xy"), (at,), at)
                plain.put(len(text), "xy")
                self.assertEqual(text_of(plain), text + "xy")

    def test_every_wrong_stretch_and_goal(self):
        deeds = (
            lambda p, at, to: p.strike(at, to),
            lambda p, at, to: p.dress(at, to, "small"),
            lambda p, at, to: p.move(at, to, 0),
            lambda p, at, to: p.move(at, to, -1),
            lambda p, at, to: p.move(at, to, len(p.rows()) + 1),
        )
        for text in ("", "a", "abcd"):
            length = len(text)
            numbers = [-FAR, FAR] + list(range(-2, length + 3))
            for at, to in itertools.product(numbers, repeat=2):
                if not 0 <= at < length:
                    field = at
                elif not at < to <= length:
                    field = to
                else:
                    continue
                for deed in deeds:
                    self.check_refused(self.dressed(text), deed, (at, to), field)

    def test_every_wrong_goal(self):
        for text in ("a", "abcd"):
            length = len(text)
            for at, to in itertools.combinations(range(length + 1), 2):
                for goal in (-FAR, -2, -1, length + 1, length + 2, FAR):
                    plain = self.dressed(text)
                    self.check_refused(plain, lambda p, *n: p.move(*n), (at, to, goal), goal)

    def test_the_first_wrong_number_is_told(self):
        plain = self.dressed("abcd")
        for deed in (lambda p, *n: p.strike(*n), lambda p, *n: p.dress(*n)):
            self.check_refused(plain, deed, (-1, 9), -1)
            self.check_refused(plain, deed, (4, 5), 4)
            self.check_refused(plain, deed, (2, 5), 5)
            self.check_refused(plain, deed, (2, 2), 2)
            self.check_refused(plain, deed, (2, 1), 1)
        move = lambda p, *n: p.move(*n)
        self.check_refused(plain, move, (-1, 9, 7), -1)
        self.check_refused(plain, move, (4, 9, -7), 4)
        self.check_refused(plain, move, (-1, 2, 7), -1)
        self.check_refused(plain, move, (1, 9, 7), 9)
        self.check_refused(plain, move, (3, 2, -7), 2)
        self.check_refused(plain, move, (1, 3, 5), 5)
        self.check_refused(plain, move, (1, 3, -1), -1)

    def test_a_deed_in_its_place_is_done_behind_a_refusal(self):
        plain = self.dressed("abcd")
        self.check_refused(plain, lambda p: p.strike(0, 5), (), 5)
        plain.strike(3, 4)
        self.check_refused(plain, lambda p: p.dress(3, 4, "small"), (), 3)
        plain.dress(2, 3, "small")
        self.check_refused(plain, lambda p: p.move(0, 1, 4), (), 4)
        plain.move(0, 1, 3)
        self.check_refused(plain, lambda p: p.put(4, "x"), (), 4)
        plain.put(3, "x")
        self.assertEqual(plain.rows(), [("b", ""), ("c", "small"), ("a", "bold"), ("x", "")])


if __name__ == "__main__":
    unittest.main()
