import itertools
import random
import unittest

from redquill.choices import let_stand_all, outcome, wipe_all
from redquill.held import against, prices, steps
from redquill.paper import Paper
from redquill.readings import text_of
from samples import all_told

LONG = 60


def short_texts():
    return ["".join(signs) for length in range(5) for signs in itertools.product("ab", repeat=length)]


def made_up_texts(seed):
    rng = random.Random(seed)
    signs = rng.choice(("a", "ab", "abc\n", "abcdefgh \\~"))
    one = "".join(rng.choices(signs, k=rng.randint(0, 25)))
    if rng.random() < 0.5:
        return one, "".join(rng.choices(signs, k=rng.randint(0, 25)))
    return one, "".join(sign for sign in one + one[:5] if rng.random() < 0.8)


def pairs_of_texts():
    pairs = list(itertools.product(short_texts(), repeat=2)) + [made_up_texts(seed) for seed in range(60)]
    pairs += [("a" * LONG, "b" * LONG), ("a" * LONG, "a" * LONG), ("", "ab" * 30), ("ab" * 30, ""),
              ("ab" * 30, "ba" * 30), ("a" * LONG, "a" * 30), ("one\ntwo", "one two\n")]
    return pairs


def most_in_common(one, other):
    """The most signs that both have in the same order: by tables from the end, apart from prices."""
    table = [[0] * (len(other) + 1) for i in range(len(one) + 1)]
    for i in reversed(range(len(one))):
        for j in reversed(range(len(other))):
            longer = max(table[i + 1][j], table[i][j + 1])
            table[i][j] = max(longer, table[i + 1][j + 1] + 1) if one[i] == other[j] else longer
    return table[0][0]


def least_price(one, other):
    return len(one) + len(other) - 2 * most_in_common(one, other)


def price_by_all_walks(one, other):
    if one == "" or other == "":
        return len(one) + len(other)
    walks = [price_by_all_walks(one[1:], other) + 1, price_by_all_walks(one, other[1:]) + 1]
    if one[0] == other[0]:
        walks.append(price_by_all_walks(one[1:], other[1:]))
    return min(walks)


class PricesTest(unittest.TestCase):
    def test_texts_without_signs(self):
        self.assertEqual(prices("", ""), [[0]])
        self.assertEqual(prices("", "abc"), [[0, 1, 2, 3]])
        self.assertEqual(prices("abc", ""), [[0], [1], [2], [3]])

    def test_worked_by_hand(self):
        self.assertEqual(prices("a", "a"), [[0, 1], [1, 0]])
        self.assertEqual(prices("a", "b"), [[0, 1], [1, 2]])
        self.assertEqual(prices("abc", "bcd"), [[0, 1, 2, 3], [1, 2, 3, 4], [2, 1, 2, 3], [3, 2, 1, 2]])
        self.assertEqual(prices("ab", "aab"), [[0, 1, 2, 3], [1, 0, 1, 2], [2, 1, 2, 1]])

    def test_one_sign_many_times(self):
        table = prices("a" * LONG, "a" * 40)
        self.assertEqual(table, [[abs(i - j) for j in range(41)] for i in range(LONG + 1)])
        table = prices("a" * LONG, "b" * LONG)
        self.assertEqual(table, [[i + j for j in range(LONG + 1)] for i in range(LONG + 1)])

    def test_all_walks_of_short_texts(self):
        for one, other in itertools.product(short_texts(), repeat=2):
            self.assertEqual(prices(one, other)[len(one)][len(other)], price_by_all_walks(one, other))

    def test_each_number_is_the_least_price_up_to_there(self):
        for seed in range(25):
            one, other = made_up_texts(seed)
            table = prices(one, other)
            self.assertEqual([len(row) for row in table], [len(other) + 1] * (len(one) + 1))
            for i, j in itertools.product(range(0, len(one) + 1, 3), range(len(other) + 1)):
                self.assertEqual(table[i][j], least_price(one[:i], other[:j]))

    def test_signs_are_compared_as_they_are(self):
        self.assertEqual(prices("aA", "Aa")[2][2], 2)
        self.assertEqual(prices("A", "a")[1][1], 2)
        self.assertEqual(prices("\n", " ")[1][1], 2)
        self.assertEqual(prices("a\n\\n", "a\n\\n")[4][4], 0)

    def test_the_lists_are_the_askers_own(self):
        for one, other in (("abc", "bcd"), ("", "ab"), ("ab", ""), ("", "")):
            table = prices(one, other)
            kept = [list(row) for row in table]
            self.assertIsInstance(table, list)
            for number, row in enumerate(table):
                self.assertIsInstance(row, list)
                row.append(99)
                self.assertEqual(table[number + 1:], kept[number + 1:])
            self.assertEqual(prices(one, other), kept)
            table.clear()
            self.assertEqual(prices(one, other), kept)


class StepsTest(unittest.TestCase):
    def check_walk(self, one, other):
        i, j, price = 0, 0, 0
        told = steps(one, other)
        for step in told:
            self.assertIsInstance(step, tuple)
            if step[0] == "keep":
                self.assertEqual(step, ("keep", i, j))
                self.assertEqual(one[i], other[j])
                i, j = i + 1, j + 1
            elif step[0] == "strike":
                self.assertEqual(step, ("strike", i))
                i, price = i + 1, price + 1
            else:
                self.assertEqual(step, ("put", j))
                j, price = j + 1, price + 1
        self.assertEqual((i, j), (len(one), len(other)))
        self.assertEqual(price, least_price(one, other))
        self.assertEqual(price, prices(one, other)[-1][-1])

    def test_texts_without_signs(self):
        self.assertEqual(steps("", ""), [])
        self.assertEqual(steps("", "abc"), [("put", 0), ("put", 1), ("put", 2)])
        self.assertEqual(steps("abc", ""), [("strike", 0), ("strike", 1), ("strike", 2)])

    def test_like_texts(self):
        for text in ("a", "ab\n", "a" * LONG, "abc" * 20):
            self.assertEqual(steps(text, text), [("keep", k, k) for k in range(len(text))])

    def test_where_one_walk_alone_is_the_cheapest(self):
        self.assertEqual(steps("abc", "bcd"), [("strike", 0), ("keep", 1, 0), ("keep", 2, 1), ("put", 2)])
        self.assertEqual(steps("ac", "abc"), [("keep", 0, 0), ("put", 1), ("keep", 1, 2)])
        self.assertEqual(steps("abc", "ac"), [("keep", 0, 0), ("strike", 1), ("keep", 2, 1)])

    def test_unlike_texts(self):
        self.assertEqual(sorted(steps("ab", "xyz")), [("put", 0), ("put", 1), ("put", 2), ("strike", 0), ("strike", 1)])

    def test_walks_of_the_least_price(self):
        for one, other in pairs_of_texts():
            self.check_walk(one, other)

    def test_the_list_is_the_askers_own(self):
        told = steps("abc", "bcd")
        kept = list(told)
        self.assertIsInstance(told, list)
        told.clear()
        self.assertEqual(steps("abc", "bcd"), kept)


class AgainstTest(unittest.TestCase):
    def check_held(self, old, new, pen):
        paper = against(old, new, pen)
        self.assertIsInstance(paper, Paper)
        self.assertEqual(paper.old_text(), old)
        strokes = paper.strokes()
        self.assertEqual([row[0] for row in strokes], [(pen, n) for n in range(1, len(strokes) + 1)])
        self.assertEqual(paper.waiting(), [row[0] for row in strokes])
        self.assertTrue(all(row[2][0] in ("put", "strike") for row in strokes))
        signs = [len(row[2][2]) if row[2][0] == "put" else len(row[2][1]) for row in strokes]
        self.assertEqual(sum(signs), least_price(old, new))
        self.assertTrue(all(signs))
        self.assertEqual(text_of(paper.view()), new)
        self.assertEqual(text_of(outcome(paper, 0)), old)
        self.assertEqual(sum(len(row[2][2]) for row in strokes if row[2][0] == "put"),
                         len(new) - most_in_common(old, new))
        return paper

    def test_pairs_of_texts(self):
        for old, new in pairs_of_texts():
            self.check_held(old, new, "ann")

    def test_all_standing_is_the_new_one_and_all_wiped_the_old_one(self):
        for seed in range(20):
            old, new = made_up_texts(seed)
            stood, wiped = against(old, new, "ann"), against(old, new, "ann")
            let_stand_all(stood)
            wipe_all(wiped)
            self.assertEqual(text_of(stood.view()), new)
            self.assertEqual(text_of(wiped.view()), old)
            self.assertTrue(all(word == "" for name, sign, word in stood.view() + wiped.view()))

    def test_like_texts_give_no_strokes(self):
        for text in ("", "a", "\n", "ab\ncd", "a" * LONG):
            paper = self.check_held(text, text, "bob")
            self.assertEqual(all_told(paper), all_told(Paper(text)))

    def test_strokes_of_the_pen_that_is_told(self):
        for pen in ("a", "zed", "abcdefgh"):
            paper = self.check_held("abc", "xbz", pen)
            self.assertEqual([number[0] for number in paper.numbers()], [pen])

    def test_a_new_paper_each_time(self):
        one, other = against("abc", "axc", "ann"), against("abc", "axc", "ann")
        kept = all_told(other)
        self.assertEqual(all_told(one), kept)
        one.put("bob", 0, "y")
        wipe_all(one)
        self.assertEqual(all_told(other), kept)
        self.assertEqual(all_told(against("abc", "axc", "ann")), kept)

    def test_pens_work_on_from_there(self):
        paper = against("abc", "xbz", "ann")
        how_many = len(paper.strokes())
        self.assertEqual(paper.numbers(), [("ann", how_many)])
        self.assertEqual(paper.put("ann", 3, "!"), ("ann", how_many + 1))
        self.assertEqual(paper.dress("bob", 0, 4, "bold"), ("bob", 1))
        self.assertEqual(text_of(paper.view()), "xbz!")
        paper.take_back("bob", ("bob", 1))
        paper.take_back("ann", ("ann", how_many + 1))
        self.assertEqual(text_of(paper.view()), "xbz")


if __name__ == "__main__":
    unittest.main()
