import itertools
import unittest

from redquill.desk import Desk
from redquill.errors import (Decided, Leaned, NoNote, NoPaper, NoRow, NoStroke, NotYours, OtherText, OutOfPlace,
                             QuillError, TooDeep, Twice)
from redquill.held import prices

EXAMPLE = r"""old ab\ncd
time 3
pen ann 2
pen bob 1
stands ann.1 1 put .0.2 x\\y
waits bob.1 2 dress bold .0.1,ann.1.2
waits ann.2 3 move .0.0 .0.4,.0.5"""

POURED = r"""old ab\ncd
time 3
pen ann 2
pen bob 1
pen cyd 1
stands ann.1 1 put .0.2 x\\y
waits cyd.1 1 strike .0.1
waits bob.1 2 dress bold .0.1
waits ann.2 3 move .0.0 .0.4,.0.5"""

LETTERS = ("", "A", "a1", "ann.1", "-", "abcdefghi", "\u00e9")
FIGURES = ("", "x", "-1", "+1", "01", "00", "1.0", "1000000000000", "0000000000001", "1_0", "\u0661", "all")
NAMES = ("", "ann", "ann.", ".1", "ann.0", "ann.01", "ann.x", "ann.1.1", "Ann.1", "-", "ann.-1", "annannann.1",
         "ann..1")
SIGNS = ("\\", "\\x", "a\\", "\\\\\\", "a\nb", "a\n", "\u00e9", "\t")

BAD_PARTS = {
    "NEW": LETTERS,
    "P": LETTERS + ("gone", "pp"),
    "PEN": LETTERS,
    "AT": FIGURES,
    "NAME": NAMES,
    "WORD": ("", "--", "Bold", "b1", "boldbolds"),
    "OLD": SIGNS + ("x" * 301, r"\n" * 301),
    "SIGNS": SIGNS + ("", "x" * 61, r"\n" * 61, r"\\" * 61),
    "WORDS": ("", "w" * 41, "a\nb", "a\n", "\u00e9", "\t"),
}

# Rows that are not refused upon the desk of `laid_desk`, with the kind of each part behind the first word.
GOOD_ROWS = (
    ("new n ab\\n\\\\", "NEW OLD"),
    ("new n ", "NEW OLD"),
    ("pour n p q", "NEW P P"),
    ("against n ann p r", "NEW PEN P P"),
    ("put p ann 0 a b", "P PEN AT SIGNS"),
    ("strike p ann 0 2", "P PEN AT AT"),
    ("dress p ann 0 2 bold", "P PEN AT AT WORD"),
    ("dress p ann 0 2 -", "P PEN AT AT WORD"),
    ("move p ann 0 2 3", "P PEN AT AT AT"),
    ("part p ann 0", "P PEN AT"),
    ("join p ann 0", "P PEN AT"),
    ("back p ann ann.2", "P PEN NAME"),
    ("stand p ann.2", "P NAME"),
    ("stand p all", "P all"),
    ("stand p by ann", "P by PEN"),
    ("stand p in 0 9", "P in AT AT"),
    ("wipe p ann.2", "P NAME"),
    ("wipe p all", "P all"),
    ("wipe p by ann", "P by PEN"),
    ("wipe p in 0 9", "P in AT AT"),
    ("view p", "P"),
    ("choice p 1", "P AT"),
    ("shown p", "P"),
    ("state p ann.1", "P NAME"),
    ("clash p q", "P P"),
    ("write p", "P"),
    ("note p ann 0 2 why not?", "P PEN AT AT WORDS"),
    ("answer p ann ann.1 so it is", "P PEN NAME WORDS"),
    ("notes p", "P"),
)


def desk_told(*rows):
    """A desk that was told these rows."""
    desk = Desk()
    for row in rows:
        desk.say(row)
    return desk


def laid_desk():
    return desk_told("new p ab\\ncd", "put p ann 2 x\\\\y", "dress p bob 0 1 bold", "move p ann 6 8 0", "stand p ann.1",
                     "new q ab\\ncd", "strike q cyd 0 1", "new r ", "note p ann 0 2 why?", "answer p bob ann.1 so.",
                     "note q bob 0 1 here")


def kept_on(desk):
    """All that is kept on a desk: each paper as it is written, with its notes."""
    told = {}
    for word in ("p", "q", "r", "n", "gone", "pp", "a"):
        try:
            told[word] = (desk.say(f"write {word}"), desk.say(f"notes {word}"))
        except NoRow:
            told[word] = None
    return told


class DeskCase(unittest.TestCase):
    def assertTold(self, desk, *pairs):
        for row, answer in pairs:
            self.assertEqual(desk.say(row), answer, msg=row)

    def assertRefused(self, desk, row, kind, **fields):
        kept = kept_on(desk)
        with self.assertRaises(QuillError, msg=repr(row)) as caught:
            desk.say(row)
        self.assertEqual((caught.exception.__class__, vars(caught.exception)), (kind, fields), msg=repr(row))
        self.assertEqual(kept_on(desk), kept, msg=repr(row))


class KeepingTest(DeskCase):
    def test_new(self):
        self.assertTold(Desk(), ("new p ab c", "ok"), ("view p", "ab c"), ("write p", "old ab c\ntime 0"),
                        ("notes p", "-"), ("new p ", "ok"), ("view p", ""), ("write p", "old \ntime 0"),
                        ("new abcdefgh  a ", "ok"), ("view abcdefgh", " a "), ("new p a\\n\\\\n", "ok"),
                        ("view p", "a\\n\\\\n"), ("write p", "old a\\n\\\\n\ntime 0"), ("new p " + "x" * 300, "ok"),
                        ("view p", "x" * 300))

    def test_a_word_that_was_used_already(self):
        desk = laid_desk()
        self.assertTold(desk, ("new p zz", "ok"), ("view p", "zz"), ("notes p", "-"), ("write p", "old zz\ntime 0"),
                        ("note p ann 0 1 again", "ann.1"), ("put p ann 0 y", "ann.1"), ("view q", "b\\ncd"))

    def test_pour(self):
        desk = laid_desk()
        p, q = desk.say("write p"), desk.say("write q")
        self.assertTold(desk, ("pour n p q", "ok"), ("notes n", "-"), ("view n", "cdbx\\\\y\\n"), ("write n", POURED))
        self.assertTold(desk, ("wipe n all", "cyd.1 bob.1 ann.2"), ("write p", p), ("write q", q))
        self.assertTold(desk, ("pour p q p", "ok"), ("notes p", "-"), ("view p", "cdbx\\\\y\\n"), ("write q", q))

    def test_pour_into_one_of_the_two(self):
        desk = laid_desk()
        notes = desk.say("notes q")
        self.assertTold(desk, ("pour p p p", "ok"), ("write p", laid_desk().say("write p")), ("notes p", "-"),
                        ("notes q", notes))

    def test_against(self):
        desk = laid_desk()
        self.assertTold(desk, ("view p", "cdabx\\\\y\\n"), ("view q", "b\\ncd"), ("against n zed p q", "ok"),
                        ("notes n", "-"), ("view n", "b\\ncd"), ("choice n 0", "cdabx\\\\y\\n"))
        rows = desk.say("write n").split("\n")
        self.assertEqual(rows[0], "old cdabx\\\\y\\n")
        self.assertEqual(rows[2][:8], "pen zed ")
        self.assertTrue(all(row.startswith("waits zed.") for row in rows[3:]))
        self.assertTold(desk, ("against n zed q p", "ok"), ("view n", "cdabx\\\\y\\n"), ("choice n 0", "b\\ncd"))
        self.assertTold(desk, ("against n zed p p", "ok"), ("write n", "old cdabx\\\\y\\n\ntime 0"))
        self.assertTold(desk, ("against n zed r r", "ok"), ("write n", "old \ntime 0"))
        self.assertTold(desk, ("against p zed p q", "ok"), ("choice p 0", "cdabx\\\\y\\n"), ("view p", "b\\ncd"),
                        ("notes p", "-"))

    def test_against_puts_and_strikes_as_few_signs_as_can_be(self):
        for one, other in (("abcabba", "cbabac"), ("", "ab"), ("ab", ""), ("one two", "two one")):
            desk = desk_told(f"new p {one}", f"new q {other}", "against n ann p q")
            signs = 0
            for row in desk.say("write n").split("\n")[3:]:
                words = row.split(" ", 5)
                signs += len(words[5]) if words[3] == "put" else words[4].count(",") + 1
            self.assertEqual(signs, prices(one, other)[-1][-1])

    def test_read(self):
        desk = laid_desk()
        self.assertTold(desk, (f"read n\n{EXAMPLE}", "ok"), ("write n", EXAMPLE), ("notes n", "-"),
                        ("put n ann 0 z", "ann.3"), (f"read p\n{EXAMPLE}", "ok"), ("write p", EXAMPLE),
                        ("notes p", "-"), ("read r\nold \ntime 0", "ok"), ("write r", "old \ntime 0"))

    def test_what_one_paper_is_told_changes_no_other(self):
        desk = laid_desk()
        desk.say(f"read n\n{desk.say('write p')}")
        desk.say("pour a p n")
        rows = ("put {} ann 0 z", "strike {} ann 0 2", "wipe {} bob.1", "stand {} all", "note {} zed 0 1 hm",
                "answer {} zed zed.1 hm", "new {} other")
        for word, row in itertools.product(("p", "n", "a"), rows):
            kept = kept_on(desk)
            desk.say(row.format(word))
            self.assertEqual([key for key, told in kept_on(desk).items() if told != kept[key]], [word])

    def test_each_desk_for_itself(self):
        desk, other = laid_desk(), Desk()
        other.say("new p z")
        self.assertEqual(kept_on(desk), kept_on(laid_desk()))
        self.assertRefused(other, "view q", NoRow)


class DeedsTest(DeskCase):
    def test_put(self):
        self.assertTold(desk_told("new p abc"), ("put p ann 0 x", "ann.1"), ("view p", "xabc"),
                        ("put p ann 4 y z ", "ann.2"), ("view p", "xabcy z "), ("put p bob 1  ", "bob.1"),
                        ("view p", "x abcy z "), ("put p bob 1 \\n\\\\n", "bob.2"), ("view p", "x\\n\\\\n abcy z "),
                        ("put p bob 0 " + "w" * 60, "bob.3"), ("put p bob 0 " + "\\n" * 60, "bob.4"),
                        ("put p abcdefgh 0 all", "abcdefgh.1"))

    def test_strike(self):
        self.assertTold(desk_told("new p abcd"), ("strike p ann 1 3", "ann.1"), ("view p", "ad"),
                        ("strike p bob 0 1", "bob.1"), ("view p", "d"), ("strike p ann 0 1", "ann.2"), ("view p", ""))

    def test_dress(self):
        rows = ("old abcd", "time 3", "pen ann 2", "pen bob 1", "waits ann.1 1 dress bold .0.2,.0.3",
                "waits ann.2 2 dress - .0.1", "waits bob.1 3 dress abcdefgh .0.1,.0.2,.0.3,.0.4")
        self.assertTold(desk_told("new p abcd"), ("dress p ann 1 3 bold", "ann.1"), ("dress p ann 0 1 -", "ann.2"),
                        ("dress p bob 0 4 abcdefgh", "bob.1"), ("view p", "abcd"), ("write p", "\n".join(rows)))

    def test_move(self):
        self.assertTold(desk_told("new p abcdef"), ("move p ann 1 3 5", "ann.1"), ("view p", "adebcf"),
                        ("move p bob 5 6 0", "bob.1"), ("view p", "fadebc"), ("move p ann 0 1 6", "ann.2"),
                        ("view p", "adebcf"))

    def test_part_and_join(self):
        self.assertTold(desk_told("new p abcd"), ("part p ann 2", "ann.1"), ("view p", "ab\\ncd"),
                        ("part p ann 0", "ann.2"), ("part p bob 6", "bob.1"), ("view p", "\\nab\\ncd\\n"),
                        ("join p bob 1", "bob.2"), ("view p", "\\nabcd\\n"), ("join p ann 0", "ann.3"),
                        ("view p", "abcd\\n"), ("join p ann 0", "ann.4"), ("view p", "abcd"))

    def test_back(self):
        self.assertTold(desk_told("new p abc", "put p ann 1 x", "strike p ann 0 1"), ("back p ann ann.2", "ok"),
                        ("view p", "axbc"), ("back p ann ann.1", "ok"), ("view p", "abc"),
                        ("write p", "old abc\ntime 2\npen ann 2"), ("put p ann 0 y", "ann.3"))

    def test_stand_and_wipe_one(self):
        self.assertTold(laid_desk(), ("stand p bob.1", "ok"), ("state p bob.1", "stands"), ("wipe p ann.2", "ok"),
                        ("state p ann.2", "wiped"), ("state p ann.1", "stands"), ("view p", "abx\\\\y\\ncd"))

    def test_stand_and_wipe_many(self):
        for word, state in (("stand", "stands"), ("wipe", "wiped")):
            self.assertTold(laid_desk(), (f"{word} p all", "bob.1 ann.2"), ("state p bob.1", state),
                            ("state p ann.2", state), (f"{word} p all", "-"), (f"{word} r all", "-"),
                            (f"{word} q all", "cyd.1"))
            self.assertTold(laid_desk(), (f"{word} p by ann", "ann.2"), ("state p bob.1", "waits"),
                            ("state p ann.2", state), (f"{word} p by ann", "-"), (f"{word} p by zed", "-"),
                            (f"{word} p by bob", "bob.1"))

    def test_stand_and_wipe_in_a_stretch_of_what_is_shown(self):
        for word, state in (("stand", "stands"), ("wipe", "wiped")):
            self.assertTold(laid_desk(), ("shown p", "+c+d=a=b=x=\\\\=y=\\n-c-d"), (f"{word} p in 3 8", "-"),
                            (f"{word} p in 9 10", "ann.2"), ("state p ann.2", state), ("state p bob.1", "waits"))
            self.assertTold(laid_desk(), (f"{word} p in 2 2", "-"), (f"{word} p in 3 2", "-"),
                            (f"{word} p in 10 99", "-"), (f"{word} p in 2 3", "bob.1"),
                            (f"{word} p in 0 999999999999", "ann.2"))
            self.assertTold(laid_desk(), (f"{word} p in 0 3", "bob.1 ann.2"), (f"{word} p in 0 3", "-"))

    def test_papers_whose_words_are_those_of_rows(self):
        self.assertTold(Desk(), ("new new old", "ok"), ("view new", "old"), ("new all a", "ok"),
                        ("put all by 1 b", "by.1"), ("stand all by.1", "ok"), ("put all in 0 c", "in.1"),
                        ("stand all by by", "-"), ("stand all by in", "in.1"), ("wipe all all", "-"),
                        ("new read x", "ok"), ("view read", "x"))


class TellingTest(DeskCase):
    def test_view(self):
        self.assertTold(laid_desk(), ("view p", "cdabx\\\\y\\n"), ("view q", "b\\ncd"), ("view r", ""))

    def test_choice(self):
        self.assertTold(desk_told("new p abc", "put p ann 1 x", "strike p bob 2 3", "move p ann 2 3 0"),
                        ("choice p 0", "abc"), ("choice p 1", "axbc"), ("choice p 2", "ac"), ("choice p 3", "axc"),
                        ("choice p 4", "cab"), ("choice p 5", "caxb"), ("choice p 6", "ca"), ("choice p 7", "cax"),
                        ("choice p 8", "abc"), ("choice p 999999999999", "cax"), ("view p", "cax"),
                        ("state p ann.1", "waits"))
        self.assertTold(desk_told("new p \\n\\\\"), ("choice p 0", "\\n\\\\"), ("choice p 5", "\\n\\\\"))

    def test_shown(self):
        self.assertTold(desk_told("new p abc", "put p ann 1 x", "strike p bob 2 3", "move p ann 2 3 0"),
                        ("shown p", "+c=a+x-b-c"), ("wipe p ann.2", "ok"), ("shown p", "=a+x-b=c"),
                        ("stand p bob.1", "ok"), ("shown p", "=a+x=c"))
        self.assertTold(desk_told("new p  =\\n\\\\", "strike p ann 2 4"), ("shown p", "= ==-\\n-\\\\"))
        self.assertTold(desk_told("new p "), ("shown p", ""))

    def test_state(self):
        self.assertTold(laid_desk(), ("state p ann.1", "stands"), ("state p ann.2", "waits"),
                        ("wipe p all", "bob.1 ann.2"), ("state p ann.2", "wiped"))

    def test_clash(self):
        desk = laid_desk()
        self.assertTold(desk, ("clash p q", ".0.1 cyd.1 bob.1"), ("clash q p", ".0.1 cyd.1 bob.1"), ("clash p p", "-"),
                        ("clash r r", "-"))
        desk.say("strike q cyd 2 4")
        self.assertTold(desk, ("clash p q", ".0.1 cyd.1 bob.1, .0.4 cyd.2 ann.2, .0.5 cyd.2 ann.2"))
        rows = ("new p abc", "put p ann 1 xy", "pour q p p", "dress q bob 0 4 bold", "strike p cyd 1 3")
        self.assertTold(desk_told(*rows), ("clash p q", "ann.1.1 bob.1 cyd.1, ann.1.2 bob.1 cyd.1"),
                        ("wipe q bob.1", "ok"), ("clash p q", "-"))

    def test_write(self):
        self.assertTold(laid_desk(), ("write p", EXAMPLE.replace(",ann.1.2", "")), ("write r", "old \ntime 0"))


class NotesTest(DeskCase):
    def test_the_example(self):
        self.assertTold(desk_told("new p abc"), ("notes p", "-"), ("note p ann 0 2 why?", "ann.1"),
                        ("notes p", "ann.1 0,1 why?"), ("answer p bob ann.1 so.", "bob.1"),
                        ("answer p cyd ann.1 no", "cyd.1"), ("notes p", "ann.1 0,1 why? {bob.1 so. | cyd.1 no}"))

    def test_notes_and_answers_within_answers(self):
        desk = desk_told("new p abc", "note p ann 0 3 one", "note p bob 2 3 two", "answer p ann bob.1 three",
                         "answer p zed ann.2 four", "answer p bob zed.1 five", "answer p ann bob.1 six",
                         "answer p bob ann.2 seven", "note p ann 1 2 eight")
        answers = "{ann.2 three {zed.1 four {bob.2 five} | bob.3 seven} | ann.3 six}"
        self.assertTold(desk, ("notes p", f"ann.1 0,1,2 one | bob.1 2 two {answers} | ann.4 1 eight"),
                        ("strike p cyd 1 3", "cyd.1"),
                        ("notes p", f"ann.1 0 one | bob.1 - two {answers} | ann.4 - eight"))
        self.assertTold(desk, ("wipe p cyd.1", "ok"), ("move p cyd 2 3 0", "cyd.2"), ("put p cyd 1 xx", "cyd.3"),
                        ("notes p", f"ann.1 0,3,4 one | bob.1 0 two {answers} | ann.4 4 eight"))

    def test_words_as_they_are(self):
        for words in (" ", "  two  blanks ", "\\n", "\\", "\\x", "{a | b}", "-", "w" * 40, "\\" * 40, "all"):
            desk = desk_told("new p abc")
            self.assertTold(desk, (f"note p ann 0 1 {words}", "ann.1"), ("notes p", f"ann.1 0 {words}"),
                            (f"answer p bob ann.1 {words}", "bob.1"), ("notes p", f"ann.1 0 {words} {{bob.1 {words}}}"))

    def test_ten_deep(self):
        desk = desk_told("new p abc", "note p ann 0 1 one")
        for m in range(1, 10):
            self.assertEqual(desk.say(f"answer p ann ann.{m} more"), f"ann.{m + 1}")
        told = "ann.1 0 one" + "".join(f" {{ann.{m} more" for m in range(2, 11)) + "}" * 9
        self.assertTold(desk, ("notes p", told))
        self.assertRefused(desk, "answer p bob ann.10 more", TooDeep, name=("ann", 10))
        self.assertTold(desk, ("answer p bob ann.9 more", "bob.1"))


class NoRowTest(DeskCase):
    def test_what_is_no_text(self):
        desk = laid_desk()
        for thing in (None, 0, 1, True, False, [], ["view", "p"], ("view", "p"), {}, b"view p", Desk()):
            self.assertRefused(desk, thing, NoRow)

    def test_rows_that_are_none_of_these(self):
        desk = laid_desk()
        for row in ("", " ", "p", "view", "views p", "View p", "VIEW p", " view p", "view p ", "view  p", "view p p",
                    "view p q", "view\tp", "view p\n", "viewp", "look p", "ok", "-", "stand", "wipe p", "stand p",
                    "notes", "clash", "clash p", "clash p q r", "pour n p", "pour n", "pour n p q r",
                    "against n ann p", "against n p q", "against n ann p q r", "new", "new n", "new  n a", "read",
                    "read ", "read n", "read n ", "put p ann 0", "put p ann", "strike p ann 0", "strike p ann 0 1 2",
                    "dress p ann 0 1", "dress p ann 0 1 bold x", "move p ann 0 1", "move p ann 0 1 2 3", "part p ann",
                    "part p ann 0 1", "part p ann 0 x", "join p ann", "join p ann 0 0", "back p ann", "back p ann.2",
                    "back p ann ann.2 x", "stand p ann.2 ann.1", "stand p ann.2 ", "stand p by", "stand p by ",
                    "stand p by ann bob", "stand p in", "stand p in 0", "stand p in 0 1 2", "stand p all all",
                    "stand p All", "stand all", "stand p  all", "choice p", "choice p 1 1", "state p",
                    "state p ann.1 ", "shown", "shown p p", "write", "write p p", "note p ann 0 1",
                    "note p ann 0 why?", "answer p ann ann.1", "answer p ann.1 so.", "notes p ann.1", "note p",
                    "undo p", "P", "p view"):
            self.assertRefused(desk, row, NoRow)

    def test_the_good_rows_are_good(self):
        for row, kinds in GOOD_ROWS:
            self.assertIsInstance(laid_desk().say(row), str)

    def test_each_part_that_is_not_of_the_form_told(self):
        for row, kinds in GOOD_ROWS:
            kinds = kinds.split(" ")
            words = row.split(" ", len(kinds))
            desk = laid_desk()
            for number, kind in enumerate(kinds, 1):
                for bad in BAD_PARTS.get(kind, ("", "x", "ALL", "ann.")):
                    changed = words[:number] + [bad] + words[number + 1:]
                    self.assertRefused(desk, " ".join(changed), NoRow)

    def test_other_blanks_in_the_rows(self):
        for row, kinds in GOOD_ROWS:
            desk = laid_desk()
            last = kinds.split(" ")[-1]
            for changed in (" " + row, row.replace(" ", "  ", 1), row.replace(" ", "\t", 1), row.replace(" ", "\n", 1),
                            row + "\n"):
                self.assertRefused(desk, changed, NoRow)
            if last not in ("OLD", "SIGNS", "WORDS"):
                for changed in (row + " ", row + " p", row + " 0"):
                    self.assertRefused(desk, changed, NoRow)

    def test_papers_that_are_not_kept(self):
        desk = Desk()
        for row, kinds in GOOD_ROWS:
            if "P" in kinds.split(" "):
                self.assertRefused(desk, row, NoRow)
        desk.say("new p a")
        for row in ("pour p p q", "pour p q p", "against p ann p q", "against p ann q p", "clash p q", "clash q p"):
            self.assertRefused(desk, row, NoRow)

    def test_a_row_of_read_that_is_not_good(self):
        desk = laid_desk()
        for row in ("read\n", "read \n", "read N\n", "read abcdefghi\n", "read n \n", "read  n\n", "read n x\n",
                    "Read n\n", " read n\n", "read n\t\n", "read n1\n", "readn\n"):
            self.assertRefused(desk, row + EXAMPLE, NoRow)
        self.assertRefused(desk, "read n " + EXAMPLE, NoRow)

    def test_numbers_of_twelve_figures_are_good(self):
        desk = laid_desk()
        most = 999999999999
        self.assertRefused(desk, f"put p ann {most} x", OutOfPlace, at=most)
        self.assertRefused(desk, f"strike p ann {most} 1", OutOfPlace, at=most)
        self.assertRefused(desk, f"strike p ann 0 {most}", OutOfPlace, at=most)
        self.assertRefused(desk, f"move p ann 0 1 {most}", OutOfPlace, at=most)
        self.assertRefused(desk, f"join p ann {most}", OutOfPlace, at=most)
        self.assertRefused(desk, f"state p ann.{most}", NoStroke, stroke=("ann", most))
        self.assertTold(desk, (f"stand p in {most} {most}", "-"))


class RefusalsTest(DeskCase):
    def test_numbers_out_of_place(self):
        desk = laid_desk()
        for row, at in (("put p ann 9 x", 9), ("part p ann 9", 9), ("strike p ann 8 9", 8), ("strike p ann 0 9", 9),
                        ("strike p ann 1 1", 1), ("strike p ann 2 1", 1), ("strike p ann 8 1", 8),
                        ("dress p ann 8 9 bold", 8), ("dress p ann 2 2 -", 2), ("move p ann 8 9 10", 8),
                        ("move p ann 0 9 10", 9), ("move p ann 0 1 9", 9), ("join p ann 1", 1), ("join p ann 2", 2),
                        ("join r ann 0", 0), ("note p ann 8 9 x", 8), ("note p ann 0 9 x", 9), ("note p ann 3 3 x", 3),
                        ("note r ann 0 1 x", 0), ("strike r ann 0 1", 0), ("put r ann 1 x", 1)):
            self.assertRefused(desk, row, OutOfPlace, at=at)

    def test_strokes(self):
        desk = laid_desk()
        for row in ("back p ann {}", "stand p {}", "wipe p {}", "state p {}", "back p zed {}"):
            for word, name in (("ann.3", ("ann", 3)), ("zed.1", ("zed", 1)), ("cyd.1", ("cyd", 1)),
                               ("ann.9999999999999", ("ann", 9999999999999))):
                self.assertRefused(desk, row.format(word), NoStroke, stroke=name)
        for row in ("stand p ann.1", "wipe p ann.1", "back p ann ann.1"):
            self.assertRefused(desk, row, Decided, stroke=("ann", 1))
        self.assertRefused(desk, "back p bob ann.2", NotYours, stroke=("ann", 2))
        self.assertRefused(desk, "back p bob ann.1", NotYours, stroke=("ann", 1))
        desk.say("put p zed 1 z")
        self.assertRefused(desk, "back p ann ann.2", Leaned, leaning=[("zed", 1)])
        desk.say("wipe p zed.1")
        self.assertRefused(desk, "back p ann ann.2", Leaned, leaning=[("zed", 1)])
        self.assertRefused(desk, "wipe p zed.1", Decided, stroke=("zed", 1))

    def test_papers_that_cannot_be_poured(self):
        desk = laid_desk()
        for row in ("pour n p r", "pour p r p", "clash p r", "clash r p"):
            self.assertRefused(desk, row, OtherText)
        desk.say("put q ann 0 zz")
        desk.say("strike q bob 0 1")
        for row in ("pour n p q", "pour p q p", "pour r p q", "clash p q", "clash q p"):
            self.assertRefused(desk, row, Twice, stroke=("ann", 1))

    def test_the_first_unlike_stroke_of_the_first_paper(self):
        desk = desk_told("new p ab", "new q ab", "put p ann 0 x", "put p bob 0 x", "put q bob 0 y", "put q ann 0 y")
        self.assertRefused(desk, "pour n p q", Twice, stroke=("ann", 1))
        self.assertRefused(desk, "pour n q p", Twice, stroke=("bob", 1))
        self.assertRefused(desk, "clash q p", Twice, stroke=("bob", 1))

    def test_texts_that_write_no_paper(self):
        desk = laid_desk()
        for text, number in (("", 0), ("\n", 0), ("x", 0), ("old ", 1), ("old \n", 1), ("\n" + EXAMPLE, 0),
                             (EXAMPLE + "\n", 7), (EXAMPLE.replace("time 3", "time 2"), 6),
                             (EXAMPLE.replace("bob 1", "bob 4"), 3), (EXAMPLE.replace(".0.5", ".0.6"), 6),
                             (EXAMPLE.replace("x\\\\y", "x\\y"), 4)):
            for word in ("n", "p"):
                self.assertRefused(desk, f"read {word}\n{text}", NoPaper, number=number)

    def test_notes(self):
        desk = laid_desk()
        for row, name in (("answer p ann zed.1 x", ("zed", 1)), ("answer p ann ann.2 x", ("ann", 2)),
                          ("answer q ann ann.1 x", ("ann", 1)), ("answer r ann ann.1 x", ("ann", 1))):
            self.assertRefused(desk, row, NoNote, name=name)
        self.assertTold(desk, ("answer p ann bob.1 x", "ann.2"))

    def test_a_row_that_is_not_good_comes_ahead_of_what_the_stages_refuse(self):
        desk = laid_desk()
        for row in ("put p ann 99 \\x", "put p Ann 99 x", "strike p ann 99 x", "dress p ann 99 100 Bold",
                    "move p ann 99 100 x", "back p zed ann.", "pour n p rr", "pour N p r", "against N ann p r",
                    "note p ann 99 100 " + "w" * 41, "answer p ann zed.1 " + "w" * 41, "answer p Ann zed.1 x",
                    "read N\nx", "clash r gone", "put gone ann 99 x", "state gone zed.1"):
            self.assertRefused(desk, row, NoRow)

    def test_what_is_refused_takes_no_number(self):
        desk = laid_desk()
        for row in ("put p ann 99 x", "put p ann 0 ", "move p ann 0 1 99", "back p bob ann.2", "note p ann 99 100 x",
                    "answer p ann zed.1 x"):
            self.assertRaises(QuillError, desk.say, row)
        self.assertTold(desk, ("put p ann 0 x", "ann.3"), ("note p ann 0 1 x", "ann.2"), ("put p new 0 x", "new.1"))
        self.assertIn("time 5\n", desk.say("write p"))


if __name__ == "__main__":
    unittest.main()
