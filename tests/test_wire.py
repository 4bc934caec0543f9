import itertools
import random
import re
import unittest

from redquill.errors import NoPaper
from redquill.paper import Paper
from redquill.strokes import START
from redquill.wire import read, written
from samples import all_told, copy_of, filled_paper, grown_apart, old_slot, some_deed, sound_strokes, worked_on

STATES = ("waits", "stands", "wiped")

EXAMPLE = r"""old ab\ncd
time 3
pen ann 2
pen bob 1
stands ann.1 1 put .0.2 x\\y
waits bob.1 2 dress bold .0.1,ann.1.2
waits ann.2 3 move .0.0 .0.4,.0.5"""

PEN = "[a-z]{1,8}"
NUMBER = "(?:0|[1-9][0-9]{0,11})"
SLOT = rf"(?:{PEN}|)\.{NUMBER}\.{NUMBER}"
NAMES = rf"{SLOT}(?:,{SLOT})*"
SIGN = r"(?:\\\\|\\n|[ -$&-\[\]-~])"
STROKE = re.compile(rf"(?P<state>waits|stands|wiped) (?P<pen>{PEN})\.(?P<n>{NUMBER}) (?P<time>{NUMBER}) "
                    rf"(?:put (?P<behind>{SLOT}) (?P<signs>{SIGN}{{1,60}})|strike (?P<struck>{NAMES})|"
                    rf"dress (?:-|{PEN}) (?P<dressed>{NAMES})|move (?P<goal>{SLOT}) (?P<moved>{NAMES}))")


def slots_made(match):
    if match["signs"]:
        many = len(re.findall(SIGN, match["signs"]))
    else:
        many = match["moved"].count(",") + 1 if match["moved"] else 0
    return [f"{match['pen']}.{match['n']}.{k}" for k in range(1, many + 1)]


def is_good_stroke(ahead, row):
    match = STROKE.fullmatch(row)
    if not match:
        return False
    strokes = [told for told in map(STROKE.fullmatch, ahead) if told]
    top = int(ahead[1][5:])
    pens = dict(told[4:].split(" ") for told in ahead if told.startswith("pen "))
    time, n = int(match["time"]), int(match["n"])
    if not (1 <= time <= top and 1 <= n <= int(pens.get(match["pen"], 0))):
        return False
    for told in strokes:
        there = (int(told["time"]), told["pen"], int(told["n"]))
        if there >= (time, match["pen"], n) or there[1:] == (match["pen"], n):
            return False
    earlier = [told for told in strokes if int(told["time"]) < time]
    old = [f".0.{k}" for k in range(1, len(re.findall(SIGN, ahead[0][4:])) + 1)]
    slots = [".0.0"] + old + [slot for told in earlier for slot in slots_made(told)]
    signs = old + [slot for told in earlier if told["signs"] for slot in slots_made(told)]
    names = [name for name in (match["struck"] or match["dressed"] or match["moved"] or "").split(",") if name]
    anchor = match["behind"] or match["goal"] or ".0.0"
    return anchor in slots and all(name in signs for name in names) and len(set(names)) == len(names)


def is_good(ahead, row):
    """Whether a row is written as told and can stand behind the rows ahead of it, good ones all."""
    if len(ahead) == 0:
        return re.fullmatch(f"old {SIGN}*", row) is not None
    if len(ahead) == 1:
        return re.fullmatch(f"time {NUMBER}", row) is not None
    match = re.fullmatch(f"pen ({PEN}) ({NUMBER})", row)
    if match:
        last = ahead[-1].split(" ")
        rises = len(ahead) == 2 or (last[0] == "pen" and last[1] < match[1])
        return rises and 1 <= int(match[2]) <= int(ahead[1][5:])
    return is_good_stroke(ahead, row)


def first_bad_row(text):
    rows = text.split("\n")
    for number, row in enumerate(rows):
        if not is_good(rows[:number], row):
            return number
    return 1 if len(rows) == 1 else None


def changed_text(rng, text):
    """A text with one small change, which may leave a good one."""
    rows = text.split("\n")
    k, other = rng.randrange(len(rows)), rng.randrange(len(rows))
    kind = rng.randrange(7)
    if kind == 0:
        rows[k], rows[other] = rows[other], rows[k]
    elif kind == 1:
        rows.pop(k)
    elif kind == 2:
        rows.insert(other, rows[k])
    elif kind == 3:
        figures = list(re.finditer("[0-9]+", rows[k]))
        if figures:
            match = rng.choice(figures)
            number = int(match[0]) + rng.choice((-1, 1, 10))
            rows[k] = rows[k][:match.start()] + str(number) + rows[k][match.end():]
    elif kind == 4:
        words = rows[k].split(" ")
        others = rng.choice(rows).split(" ") + ["wiped", "-", "put", "move", "strike"]
        words[rng.randrange(len(words))] = rng.choice(others)
        rows[k] = " ".join(words)
    else:
        at = rng.randint(0, len(rows[k]))
        sign = rng.choice(".,0a1 \\n-\n%" + rows[k])
        rows[k] = rows[k][:at] + (sign if kind == 5 else rng.choice(("", sign))) + rows[k][at + kind - 5:]
    return "\n".join(rows)


def with_row(number, row, text=EXAMPLE):
    rows = text.split("\n")
    rows[number] = row
    return "\n".join(rows)


def lines(*rows):
    return "\n".join(rows)


def all_kinds():
    """A paper with each kind of stroke in each state, and slots of all sorts."""
    acts = [("put", START, "a\nb"), ("put", old_slot(2), "\\"), ("put", ("p", 1, 2), " "),
            ("strike", (old_slot(1),)), ("strike", (("p", 1, 2), old_slot(3))), ("strike", (("p", 2, 1),)),
            ("dress", (old_slot(1),), "bold"), ("dress", (("p", 3, 1), old_slot(1)), ""), ("dress", (old_slot(2),), ""),
            ("move", (old_slot(1), old_slot(3)), START), ("move", (("p", 1, 3), old_slot(2)), old_slot(1)),
            ("move", (old_slot(2),), ("p", 10, 2))]
    strokes = [(("p", n), n, act) for n, act in enumerate(acts, 1)]
    return filled_paper("x\n\\", strokes, [(("p", n), STATES[n % 3]) for n in range(1, len(acts) + 1)])


ALL_KINDS = r"""old x\n\\
time 12
pen p 12
stands p.1 1 put .0.0 a\nb
wiped p.2 2 put .0.2 \\
waits p.3 3 put p.1.2""" + "  " + r"""
stands p.4 4 strike .0.1
wiped p.5 5 strike p.1.2,.0.3
waits p.6 6 strike p.2.1
stands p.7 7 dress bold .0.1
wiped p.8 8 dress - p.3.1,.0.1
waits p.9 9 dress - .0.2
stands p.10 10 move .0.0 .0.1,.0.3
wiped p.11 11 move .0.1 p.1.3,.0.2
waits p.12 12 move p.10.2 .0.2"""


def written_papers():
    """Papers that came by deeds, some of them poured together, and some filled."""
    papers = [Paper(""), Paper("a\n\\"), all_kinds(), read(EXAMPLE)]
    for seed in range(12):
        papers.extend(grown_apart(seed))
        papers.append(worked_on(seed, Paper("abcd"), ("ann", "bob", "z"), 30))
        strokes = [(name, 3 * time, act) for name, time, act in sound_strokes(seed, "abc", 14)]
        states = [(row[0], STATES[k * seed % 3]) for k, row in enumerate(strokes)]
        papers.append(filled_paper("abc", strokes, states))
    return papers


class WrittenTest(unittest.TestCase):
    def test_without_strokes(self):
        self.assertEqual(written(Paper("")), "old \ntime 0")
        self.assertEqual(written(Paper("ab c")), "old ab c\ntime 0")
        self.assertEqual(written(Paper(" ")), "old  \ntime 0")

    def test_line_feeds_and_backslashes(self):
        paper = Paper("a\n\\n\\\n")
        paper.put("ann", 0, "\n\\\\n")
        self.assertEqual(written(paper), lines(r"old a\n\\n\\\n", "time 1", "pen ann 1",
                                               r"waits ann.1 1 put .0.0 \n\\\\n"))

    def test_the_example(self):
        paper = Paper("ab\ncd")
        strokes = [(("ann", 1), 1, ("put", old_slot(2), "x\\y")),
                   (("bob", 1), 2, ("dress", (old_slot(1), ("ann", 1, 2)), "bold")),
                   (("ann", 2), 3, ("move", (old_slot(4), old_slot(5)), START))]
        states = [(("ann", 1), "stands"), (("bob", 1), "waits"), (("ann", 2), "waits")]
        paper.fill(strokes, states, [("bob", 1), ("ann", 2)], 3)
        self.assertEqual(written(paper), EXAMPLE)

    def test_the_example_by_deeds(self):
        paper = Paper("ab\ncd")
        paper.let_stand(paper.put("ann", 2, "x\\y"))
        paper.dress("bob", 0, 1, "bold")
        paper.move("ann", 6, 8, 0)
        self.assertEqual(written(paper), EXAMPLE.replace(",ann.1.2", ""))

    def test_each_kind_in_each_state(self):
        self.assertEqual(written(all_kinds()), ALL_KINDS)
        acts = (("put", old_slot(1), "x"), ("strike", (old_slot(1), old_slot(2))), ("dress", (old_slot(2),), ""),
                ("dress", (old_slot(2),), "b"), ("move", (old_slot(2),), START))
        rows = ("put .0.1 x", "strike .0.1,.0.2", "dress - .0.2", "dress b .0.2", "move .0.0 .0.2")
        for (act, row), state in itertools.product(zip(acts, rows), STATES):
            paper = Paper("ab")
            paper.fill([(("ann", 2), 4, act)], [(("ann", 2), state)], [("ann", 3)], 5)
            self.assertEqual(written(paper), lines("old ab", "time 5", "pen ann 3", f"{state} ann.2 4 {row}"))

    def test_strokes_in_the_order(self):
        strokes = [(("b", 1), 2, ("put", START, "1")), (("a", 10), 2, ("put", START, "2")),
                   (("a", 9), 2, ("put", START, "3")), (("z", 1), 1, ("put", START, "4"))]
        paper = Paper("")
        paper.fill(strokes, [(row[0], "waits") for row in strokes], [("z", 1), ("b", 1), ("a", 10)], 10)
        self.assertEqual(written(paper), lines("old ", "time 10", "pen a 10", "pen b 1", "pen z 1",
                                               "waits z.1 1 put .0.0 4", "waits a.9 2 put .0.0 3",
                                               "waits a.10 2 put .0.0 2", "waits b.1 2 put .0.0 1"))
        self.assertEqual(all_told(read(written(paper))), all_told(paper))

    def test_pens_sorted_also_those_without_strokes(self):
        paper = Paper("ab")
        for pen in ("zed", "ann", "m", "an"):
            paper.put(pen, 0, "x")
        paper.put("ann", 0, "y")
        paper.take_back("ann", ("ann", 2))
        paper.take_back("ann", ("ann", 1))
        paper.take_back("zed", ("zed", 1))
        self.assertEqual(written(paper), lines("old ab", "time 5", "pen an 1", "pen ann 2", "pen m 1", "pen zed 1",
                                               "waits m.1 3 put .0.0 x", "waits an.1 4 put .0.0 x"))

    def test_only_taken_back(self):
        paper = Paper("")
        paper.take_back("ann", paper.put("ann", 0, "x"))
        self.assertEqual(written(paper), "old \ntime 1\npen ann 1")
        self.assertEqual(all_told(read(written(paper))), all_told(paper))

    def test_writing_changes_nothing(self):
        for paper in written_papers():
            kept = all_told(paper)
            self.assertEqual(written(paper), written(copy_of(paper)))
            self.assertEqual(all_told(paper), kept)


class ReadTest(unittest.TestCase):
    def test_the_example(self):
        paper = read(EXAMPLE)
        self.assertIsInstance(paper, Paper)
        self.assertEqual(paper.old_text(), "ab\ncd")
        self.assertEqual(paper.strokes(), [(("ann", 1), 1, ("put", old_slot(2), "x\\y")),
                                           (("bob", 1), 2, ("dress", (old_slot(1), ("ann", 1, 2)), "bold")),
                                           (("ann", 2), 3, ("move", (old_slot(4), old_slot(5)), START))])
        self.assertEqual([paper.state(row[0]) for row in paper.strokes()], ["stands", "waits", "waits"])
        self.assertEqual(paper.numbers(), [("ann", 2), ("bob", 1)])
        self.assertEqual(paper.last_time(), 3)

    def test_each_kind_in_each_state(self):
        self.assertEqual(all_told(read(ALL_KINDS)), all_told(all_kinds()))

    def test_what_is_written_is_read(self):
        for paper in written_papers():
            text = written(paper)
            again = read(text)
            self.assertEqual(all_told(again), all_told(paper))
            self.assertEqual(written(again), text)

    def test_deeds_go_on_from_there(self):
        for seed, paper in enumerate(written_papers()):
            again = read(written(paper))
            rng, other_rng = random.Random(seed), random.Random(seed)
            for deed in range(12):
                some_deed(rng, paper, "ann")
                some_deed(other_rng, again, "ann")
                self.assertEqual(all_told(again), all_told(paper))

    def test_numbers_taken_back_stay_used(self):
        paper = Paper("ab")
        paper.take_back("ann", paper.put("ann", 0, "x"))
        again = read(written(paper))
        self.assertEqual(again.put("ann", 0, "y"), ("ann", 2))
        self.assertEqual(again.last_time(), 2)
        self.assertEqual(paper.last_time(), 1)

    def test_two_papers_read_are_two(self):
        one, other = read(EXAMPLE), read(EXAMPLE)
        one.wipe(("bob", 1))
        one.put("ann", 0, "x")
        self.assertEqual(written(other), EXAMPLE)

    def test_the_bounds(self):
        most = "9" * 12
        for text in (lines("old a", f"time {most}"),
                     lines("old ", f"time {most}", f"pen abcdefgh {most}",
                           f"waits abcdefgh.{most} {most} put .0.0 x"),
                     lines("old ", "time 1", "pen a 1", "waits a.1 1 put .0.0 " + "x" * 60),
                     lines("old ", "time 1", "pen a 1", "waits a.1 1 put .0.0 " + r"\n" * 30 + r"\\" * 30),
                     lines("old ", "time 1", "pen a 1", "waits a.1 1 put .0.0  "),
                     lines("old ", "time 7"),
                     lines("old " + "x" * 300, "time 0"),
                     lines("old a", "time 1", "pen a 1", "waits a.1 1 dress abcdefgh .0.1"),
                     lines("old a", "time 2", "pen a 2", "pen b 1", "waits a.1 1 put .0.0 x", "waits a.2 1 put .0.1 x",
                           "waits b.1 1 strike .0.1")):
            self.assertIsNone(first_bad_row(text))
            self.assertEqual(written(read(text)), text)


class RefusedTest(unittest.TestCase):
    def assertNoPaper(self, text, number):
        with self.assertRaises(NoPaper, msg=repr(text)) as caught:
            read(text)
        self.assertEqual(caught.exception.number, number, msg=repr(text))

    def test_what_is_no_text(self):
        for thing in (None, 0, 7, True, [], ["old ", "time 0"], ("old ", "time 0"), {}, b"old \ntime 0", Paper("")):
            self.assertNoPaper(thing, 0)

    def test_the_text_without_signs(self):
        self.assertNoPaper("", 0)

    def test_no_row_of_time(self):
        self.assertNoPaper("old ", 1)
        self.assertNoPaper("old a\\nb", 1)
        self.assertNoPaper("old a\n", 1)

    def test_each_row_missing(self):
        # Each row of the example but the last two has another that needs it.
        for number, bad in enumerate((0, 1, 3, 4, 4)):
            rows = EXAMPLE.split("\n")
            rows.pop(number)
            self.assertNoPaper("\n".join(rows), bad)

    def test_each_row_doubled(self):
        for number in range(7):
            rows = EXAMPLE.split("\n")
            rows.insert(number, rows[number])
            self.assertNoPaper("\n".join(rows), number + 1)

    def test_two_rows_out_of_their_order(self):
        for number, bad in enumerate((0, 1, 3, 4, 4, 6)):
            rows = EXAMPLE.split("\n")
            rows[number], rows[number + 1] = rows[number + 1], rows[number]
            self.assertNoPaper("\n".join(rows), bad)

    def test_an_empty_row(self):
        for number in range(8):
            rows = EXAMPLE.split("\n")
            rows.insert(number, "")
            self.assertNoPaper("\n".join(rows), number)

    def test_rows_of_old(self):
        for row in ("old", "Old a", "olda", " old a", "old\ta", "new a", "old a\\", "old \\x", "old a\\\\\\",
                    "old a\tb", "time 0", "o", "old%", "old \u00e9"):
            self.assertNoPaper(with_row(0, row), 0)

    def test_rows_of_time(self):
        for row in ("time", "time ", "time 03", "time 00", "time -1", "time +3", "time 3 ", "time  3", " time 3",
                    "time 3 3", "time x", "Time 3", "time 1000000000003", "time 0000000000003", "time 3_0",
                    "time \u0663", "time 3.", "pen ann 2", "old a"):
            self.assertNoPaper(with_row(1, row), 1)

    def test_rows_of_pens(self):
        for row in ("pen", "pen ", "pen ann", "pen ann ", "pen ann 0", "pen ann 02", "pen ann 4", "pen ann -1",
                    "pen Ann 2", "pen  2", "pen annannann 2", "pen ann 2 ", "pen ann  2", " pen ann 2", "pen ann 2 2",
                    "pen a1 2", "pen ann 1000000000000", "pen ann 0000000000002", "pen ann x", "pens ann 2", "pen . 2",
                    "pen - 2"):
            self.assertNoPaper(with_row(2, row), 2)
        self.assertNoPaper(lines("old ", "time 0", "pen ann 1"), 2)

    def test_pens_rise(self):
        for pens, bad in ((("b", "a"), 3), (("a", "a"), 3), (("a", "c", "b"), 4), (("ab", "a"), 3),
                          (("a", "b", "a"), 4)):
            self.assertNoPaper(lines("old ", "time 3", *[f"pen {pen} 1" for pen in pens]), bad)
        read(lines("old ", "time 3", "pen a 1", "pen ab 1", "pen b 1"))

    def test_pens_behind_strokes(self):
        text = lines("old ", "time 3", "pen a 1", "waits a.1 1 put .0.0 x", "pen b 1")
        self.assertNoPaper(text, 4)

    def test_time_and_old_again(self):
        for row in ("time 3", "time 4", "old ab", "old "):
            for number in range(2, 8):
                rows = EXAMPLE.split("\n")
                rows.insert(number, row)
                self.assertNoPaper("\n".join(rows), number)

    def test_the_words_of_a_stroke(self):
        for row in ("stand ann.1 1 put .0.2 x", "Stands ann.1 1 put .0.2 x", "ann.1 1 put .0.2 x",
                    " stands ann.1 1 put .0.2 x", "stands  ann.1 1 put .0.2 x", "stands ann.1  1 put .0.2 x",
                    "stands ann.1 1  put .0.2 x", "stands ann.1 1 put  .0.2 x", "stands ann.1 1 Put .0.2 x",
                    "stands ann.1 1 puts .0.2 x", "stands ann.1 1 part .0.2 x", "stands ann.1 1", "stands ann.1",
                    "stands", "stands ann.1 1 put", "stands ann.1 1 put ", "stands ann.1 1  .0.2 x",
                    "- ann.1 1 put .0.2 x", " ", "wait", "stands ann.1 put .0.2 x", "stands 1 ann.1 put .0.2 x"):
            self.assertNoPaper(with_row(4, row), 4)

    def test_the_name_of_a_stroke(self):
        for name in ("ann.0", "ann.3", "ann.01", "ann.-1", "ann.", "ann", ".1", "ann.1.1", "bob.2", "cyd.1", "Ann.1",
                     ".0", "ann.1000000000001", "ann.0000000000001", "an.1", "anna.1", "ann..1", "ann.+1", "", "-",
                     "ann,1", "annannann.1"):
            self.assertNoPaper(with_row(4, f"stands {name} 1 put .0.2 x\\\\y"), 4)

    def test_a_name_borne_twice(self):
        self.assertNoPaper(with_row(6, "waits ann.1 3 move .0.0 .0.4,.0.5"), 6)
        self.assertNoPaper(with_row(6, "wiped bob.1 3 put .0.0 x"), 6)

    def test_the_time_of_a_stroke(self):
        for time in ("0", "4", "03", "-1", "+3", "", "x", "3.0", "1000000000003", "0000000000003", "33"):
            self.assertNoPaper(with_row(6, f"waits ann.2 {time} move .0.0 .0.4,.0.5"), 6)

    def test_a_stroke_not_later_than_the_one_ahead(self):
        pens = ("old ab", "time 9", "pen a 9", "pen b 9")
        for ahead, behind in (("a.1 2", "a.2 1"), ("a.1 2", "b.1 1"), ("b.1 2", "a.1 2"), ("a.2 2", "a.1 2"),
                              ("b.1 2", "a.2 2")):
            self.assertNoPaper(lines(*pens, f"waits {ahead} put .0.0 x", f"waits {behind} put .0.0 x"), 5)
            read(lines(*pens, f"waits {behind} put .0.0 x", f"waits {ahead} put .0.0 x"))
        three = ("waits a.1 1 put .0.0 x", "waits a.2 5 put .0.0 x", "waits a.3 4 put .0.0 x")
        self.assertNoPaper(lines(*pens, *three), 6)

    def test_numbers_of_a_pen_need_not_rise_with_time(self):
        text = lines("old ab", "time 9", "pen a 9", "waits a.7 2 put .0.0 x", "waits a.2 3 put .0.0 x")
        self.assertEqual(written(read(text)), text)

    def test_the_signs_of_a_put(self):
        for signs in ("", "x" * 61, r"\n" * 61, "\\", "x\\", "\\x", "\\\\\\", "\\N", "a\tb", "\u00e9"):
            self.assertNoPaper(with_row(4, f"stands ann.1 1 put .0.2 {signs}"), 4)
        self.assertNoPaper(with_row(4, "stands ann.1 1 put .0.2"), 4)

    def test_anchors(self):
        for slot in (".0.6", ".0.00", ".0.02", ".1.1", ".0", "0.0", "..", "ann.1.1", "bob.1.1", "ann.0.0", "x", "-",
                     "", ".0.-1", ".0.1000000000000", ".00.1", "..1", ".0.1,.0.2", "START"):
            self.assertNoPaper(with_row(4, f"stands ann.1 1 put {slot} x\\\\y"), 4)
        for slot in (".0.6", ".0.00", "ann.1.4", "ann.1.0", "ann.2.1", "bob.1.1", "bob.2.1", "cyd.1.1", "ann.01.1",
                     "ann.1.01", "ann.1", "x", "", ".0.0,.0.1"):
            self.assertNoPaper(with_row(6, f"waits ann.2 3 move {slot} .0.4,.0.5"), 6)
        for slot in (".0.0", ".0.5", "ann.1.1", "ann.1.3"):
            read(with_row(6, f"waits ann.2 3 move {slot} .0.4,.0.5"))

    def test_names_of_signs(self):
        for names in ("", ",", ".0.1,", ",.0.1", ".0.1,.0.1", ".0.1,.0.2,.0.1", "ann.1.1,ann.1.1", ".0.0", ".0.6",
                      ".0.1,.0.6", "ann.1.4", "ann.1.0", "ann.2.1", "bob.1.1", "cyd.1.1", ".0.1, .0.2", ".0.1 .0.2",
                      ".0.1,,.0.2", "-", ".0.01", "ann.1", "x", ".0.1.", ".0.1000000000000", ".0.1 ", " .0.1",
                      ".0.1;.0.2"):
            for act in ("strike", "dress bold", "dress -", "move .0.0"):
                self.assertNoPaper(with_row(6, f"waits ann.2 3 {act} {names}"), 6)
        for act in ("strike", "dress bold", "dress -", "move .0.0"):
            self.assertNoPaper(with_row(6, f"waits ann.2 3 {act}"), 6)
            read(with_row(6, f"waits ann.2 3 {act} .0.5,.0.1,ann.1.3"))

    def test_words_of_a_dress(self):
        for word in ("", "--", "Bold", "b1", "boldbolds", "bold.", ".0.1"):
            self.assertNoPaper(with_row(5, f"waits bob.1 2 dress {word} .0.1"), 5)

    def test_slots_of_a_move_are_anchors_but_no_signs(self):
        rows = ("old ab", "time 3", "pen a 3", "waits a.1 1 move .0.0 .0.2,.0.1")
        read(lines(*rows, "waits a.2 2 put a.1.2 x"))
        read(lines(*rows, "waits a.2 2 move a.1.1 .0.1"))
        self.assertNoPaper(lines(*rows, "waits a.2 2 put a.1.3 x"), 4)
        for act in ("strike a.1.1", "dress - a.1.2", "move .0.0 a.1.1"):
            self.assertNoPaper(lines(*rows, f"waits a.2 2 {act}"), 4)

    def test_strikes_and_dresses_make_no_slots(self):
        for act in ("strike .0.1", "dress b .0.1"):
            rows = ("old ab", "time 3", "pen a 3", f"waits a.1 1 {act}")
            for later in ("put a.1.1 x", "strike a.1.1", "move a.1.1 .0.2"):
                self.assertNoPaper(lines(*rows, f"waits a.2 2 {later}"), 4)

    def test_slots_and_signs_of_the_same_time(self):
        rows = ("old ab", "time 3", "pen a 2", "pen b 2", "waits a.1 2 put .0.0 xy")
        for later in ("put a.1.1 z", "strike a.1.2", "dress b .0.1,a.1.1", "move a.1.1 .0.1", "move .0.0 a.1.1"):
            for name in ("a.2", "b.1"):
                self.assertNoPaper(lines(*rows, f"waits {name} 2 {later}"), 5)
                read(lines(*rows, f"waits {name} 3 {later}"))
        move = ("old ab", "time 3", "pen a 2", "pen b 2", "waits a.1 2 move .0.0 .0.1")
        self.assertNoPaper(lines(*move, "waits b.1 2 put a.1.1 z"), 5)
        read(lines(*move, "waits b.1 3 put a.1.1 z"))

    def test_slots_and_signs_of_itself_and_of_later_ones(self):
        rows = ("old ab", "time 3", "pen a 2", "pen b 2")
        for act in ("put a.1.1 x", "move a.1.1 .0.1", "move .0.0 a.1.1", "strike b.1.1", "put b.1.1 x",
                    "dress - b.1.1"):
            self.assertNoPaper(lines(*rows, f"waits a.1 1 {act}", "waits b.1 2 put .0.0 xy"), 4)

    def test_signs_of_a_wiped_put_may_be_named(self):
        text = lines("old ", "time 2", "pen a 2", "wiped a.1 1 put .0.0 x", "waits a.2 2 strike a.1.1")
        self.assertEqual(written(read(text)), text)

    def test_the_first_row_that_is_not_good(self):
        rows = EXAMPLE.split("\n")
        for first in range(7):
            for bad in range(first, 7):
                text = "\n".join("x" if first == k or k >= bad else row for k, row in enumerate(rows))
                self.assertNoPaper(text, first)
        self.assertNoPaper(EXAMPLE + "\n", 7)
        self.assertNoPaper("\n" + EXAMPLE, 0)
        self.assertNoPaper(EXAMPLE + "\n" + EXAMPLE, 7)
        self.assertNoPaper(EXAMPLE.replace("\n", "\r\n"), 0)
        self.assertNoPaper(EXAMPLE.replace("\n", "\\n"), 1)

    def test_changed_texts(self):
        rng = random.Random(7)
        told = {}
        for paper in written_papers():
            for change in range(60):
                text = written(paper)
                for again in range(rng.choice((1, 1, 2))):
                    text = changed_text(rng, text)
                bad = first_bad_row(text)
                told[bad] = told.get(bad, 0) + 1
                if bad is None:
                    self.assertEqual(written(read(text)), text)
                else:
                    self.assertNoPaper(text, bad)
        # So that neither side is tested by a handful of texts alone.
        self.assertGreater(told[None], 200)
        self.assertGreater(len(told), 15)


if __name__ == "__main__":
    unittest.main()
