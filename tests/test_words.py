import itertools
import random
import unittest

from meetrow.errors import NoText
from meetrow.towns import Town
from meetrow.ways import meet
from meetrow.words import is_word, parting, read_word, show_word, told_by
from tests import brute


def deep(within, place=1):
    """A word of so many meets within one another."""
    word = "a"
    for _ in range(within):
        parts = ["b", "c"]
        parts.insert(place - 1, word)
        word = ("meet", *parts)
    return word


def wide(meets):
    """A word of so many meets, as few within one another as may be."""
    if meets == 0:
        return "a"
    first = (meets - 1) // 3
    second = (meets - 1 - first) // 2
    return ("meet", wide(first), wide(second), wide(meets - 1 - first - second))


def named(names):
    """A word of these names, each once, the last one twice where one is left."""
    word = names[0]
    for at in range(1, len(names), 2):
        pair = (names[at:at + 2] * 2)[:2]
        word = ("meet", word, *pair)
    return word


def random_word(chance, meets, names):
    if meets == 0:
        return chance.choice(names)
    first = chance.randint(0, meets - 1)
    second = chance.randint(0, meets - 1 - first)
    return ("meet", random_word(chance, first, names), random_word(chance, second, names),
            random_word(chance, meets - 1 - first - second, names))


class IsWord(unittest.TestCase):
    def test_words(self):
        for thing in ["a", "z", "meet", "abcdefgh", ("meet", "a", "a", "a"), ("meet", "meet", "meet", "meet"),
                      ("meet", ("meet", "a", "b", "c"), "d", ("meet", "a", "b", "c")), deep(20), deep(20, 2),
                      deep(20, 3), wide(40), named(list("abcdefgh"))]:
            self.assertIs(is_word(thing), True, thing)

    def test_no_words(self):
        for thing in brute.THINGS[:4] + [
            "", "abcdefghi", "A", "aB", "a1", "a b", " a", "a_", "a\n", "`", "{", "1", None, 0, 1, -1, True, False,
            10 ** 59, (), [], ("a",), ("meet",), ("meet", "a"), ("meet", "a", "b"), ("meet", "a", "b", "c", "d"),
            ["meet", "a", "b", "c"], ("meat", "a", "b", "c"), ("", "a", "b", "c"), ("a", "a", "b", "c"),
            (None, "a", "b", "c"), (("meet",), "a", "b", "c"), (["meet"], "a", "b", "c"), ("meet", "a", "b", None),
            ("meet", "a", "b", ""), ("meet", "", "b", "a"), ("meet", "a", "B", "c"), ("meet", "a", ["meet"], "c"),
            ("meet", "a", ["meet", "a", "b", "c"], "c"), ("meet", ("meet", "a", "b"), "b", "c"),
            ("meet", "a", "b", ("meet", "a", "b", 1)), ("meet", True, "b", "c"), ("meet", (), "b", "c"),
            brute.nested(100), brute.nested(100, lambda inner: ("meet", inner, "a", "b")),
            brute.nested(100, lambda inner: (inner,)), "meet(a, b, c)", deep(21), deep(21, 2), deep(21, 3), wide(41),
            named(list("abcdefghi")), ["a"], ("a", "b", "c", "d"), list("abc"),
        ]:
            with self.subTest(thing=str(thing)[:60]):
                self.assertIs(is_word(thing), False)

    def test_things_of_many_parts(self):
        self.assertIs(is_word(["a"] * 9999), False)
        self.assertIs(is_word(("meet",) + ("a",) * 9998), False)
        self.assertIs(is_word(wide(2400)), False)

    def test_meets_are_counted_at_each_place(self):
        inner = wide(13)
        self.assertIs(is_word(("meet", inner, inner, inner)), True)
        inner = wide(14)
        self.assertIs(is_word(("meet", inner, inner, wide(11))), True)
        self.assertIs(is_word(("meet", inner, inner, wide(12))), False)

    def test_names_are_counted_once(self):
        self.assertIs(is_word(("meet", named(list("abcdefgh")), named(list("hgfedcba")), "a")), True)
        self.assertIs(is_word(("meet", named(list("abcdefgh")), named(list("hgfedcba")), "i")), False)


class Texts(unittest.TestCase):
    def test_show(self):
        self.assertEqual(show_word("a"), "a")
        self.assertEqual(show_word("meet"), "meet")
        self.assertEqual(show_word(("meet", "a", "bc", "meet")), "meet(a, bc, meet)")
        self.assertEqual(show_word(("meet", "a", ("meet", "b", "c", "d"), "e")), "meet(a, meet(b, c, d), e)")

    def test_read(self):
        for text, word in [
            ("a", "a"), ("meet", "meet"), ("abcdefgh", "abcdefgh"), ("meet(a, b, c)", ("meet", "a", "b", "c")),
            ("meet(meet, meet, meet)", ("meet", "meet", "meet", "meet")),
            ("meet(meet(a, a, a), meet, meet(meet, b, c))",
             ("meet", ("meet", "a", "a", "a"), "meet", ("meet", "meet", "b", "c"))),
        ]:
            self.assertEqual(brute.shape(read_word(text)), brute.shape(word))

    def test_what_is_shown_is_read(self):
        chance = random.Random(14)
        words = [random_word(chance, chance.randint(0, 12), ["a", "bc", "meet", "meeta", "zzzzzzzz"]) for _ in range(300)]
        for word in words + [deep(20), deep(20, 2), deep(20, 3), wide(40), named(list("abcdefgh"))]:
            self.assertEqual(brute.shape(read_word(show_word(word))), brute.shape(word))

    def refused(self, text):
        with self.subTest(text=text[:60]), self.assertRaises(NoText):
            read_word(text)

    def test_other_texts_are_refused(self):
        for text in ["", " ", "\n", "a ", " a", "a\n", "A", "abcdefghi", "a b", "a,b", "a, b", "a1", "1", "meet(", "meet()",
                     "meet(a)", "meet(a, b)", "meet(a, b, c", "meet(a, b, c, d)", "meet(a, b, c))", "meet(a,b, c)",
                     "meet(a,  b, c)", "meet( a, b, c)", "meet(a, b, c )", "meet (a, b, c)", "meat(a, b, c)",
                     "meet(a, b, )", "meet(, b, c)", "(a, b, c)", "a(a, b, c)", "meet[a, b, c]", "meet(a, b, C)",
                     "meet(a, b, abcdefghi)", "meeta(a, b, c)", "meet(a, b, c)d", "meet(a; b; c)", "meet(a, b, c) ",
                     "('meet', 'a', 'b', 'c')", "meet(a, b, meet(a, b))", "meet(a\n, b, c)", "\nmeet(a, b, c)"]:
            self.refused(text)

    def test_texts_of_what_is_no_word(self):
        for thing in (deep(21), deep(21, 2), deep(21, 3), wide(41), named(list("abcdefghi")), deep(90)):
            self.refused(show_word(thing))
        self.refused("meet(" * 5000)
        self.refused("meet(a, " * 5000)
        self.refused("meet(a, b, " * 5000 + "a" + ")" * 5000)
        self.refused("a" * 20000)

    def test_one_sign_in_out_or_otherwise(self):
        text = "meet(ab, meet(c, meet, c), abcdefgh)"
        known = set()
        for at in range(len(text) + 1):
            known.add(text[:at] + text[at + 1:])
            for sign in " ,()ameZ-\n":
                known.add(text[:at] + sign + text[at:])
                known.add(text[:at] + sign + text[at + 1:])
        read = 0
        for other in sorted(known):
            try:
                word = read_word(other)
            except NoText:
                continue
            read += 1
            self.assertIs(is_word(word), True)
            self.assertEqual(show_word(word), other)
        self.assertGreater(read, 20)
        self.assertLess(read, len(known) // 2)


class ToldBy(unittest.TestCase):
    def test_told(self):
        spots = {"a": (1, 2, 3), "b": (1, -2, -3), "c": (-1, 2, -3)}
        self.assertEqual(told_by("b", spots), (1, -2, -3))
        self.assertEqual(told_by(("meet", "a", "b", "c"), spots), (1, 2, -3))
        self.assertEqual(told_by(("meet", "a", "a", "c"), spots), (1, 2, 3))
        self.assertEqual(told_by(("meet", "c", ("meet", "a", "b", "c"), "b"), spots), (1, 2, -3))
        self.assertEqual(told_by("meet", {"meet": (), "other": None}), ())

    def test_other_names_are_ignored_and_nothing_is_changed(self):
        spots = {"b": (1,), "a": (-1,), "z": "no spot"}
        self.assertEqual(told_by(("meet", "a", "b", "b"), spots), (1,))
        self.assertEqual(spots, {"b": (1,), "a": (-1,), "z": "no spot"})

    def test_told_in_towns(self):
        chance = random.Random(15)

        def slow(word, spots):
            return spots[word] if isinstance(word, str) else meet(*[slow(part, spots) for part in word[1:]])

        for town, spots in brute.plain_towns(16, 40):
            for _ in range(10):
                word = random_word(chance, chance.randint(0, 9), list("abcd"))
                by = {name: chance.choice(spots) for name in "abcde"}
                told = told_by(word, by)
                self.assertIn(told, spots)
                self.assertEqual(told, slow(word, by))

    def test_the_deepest_and_the_widest(self):
        by = {"a": (1, 2), "b": (1, -2), "c": (-1, -2)}
        self.assertEqual(told_by(deep(20), by), (1, -2))
        self.assertEqual(told_by(wide(40), by), (1, 2))


class Parting(unittest.TestCase):
    def check(self, word, other):
        names = sorted({name for name in show_word(word).replace("meet(", " ").replace(",", " ").replace(")", " ").split()}
                       | {name for name in
                          show_word(other).replace("meet(", " ").replace(",", " ").replace(")", " ").split()})
        told = parting(word, other)
        unlike = []
        for sides in itertools.product((1, -1), repeat=len(names)):
            by = {name: (side,) for name, side in zip(names, sides)}
            if told_by(word, by) != told_by(other, by):
                unlike.append([name for name in names if by[name] == (1,)])
        if unlike:
            self.assertIn(brute.shape(told), [brute.shape(one) for one in unlike])
        else:
            self.assertIsNone(told)
        self.assertEqual(parting(word, other), told)
        return told

    def test_alike(self):
        for word, other in [
            ("a", "a"), ("a", ("meet", "a", "a", "b")), (("meet", "a", "b", "c"), ("meet", "c", "a", "b")),
            (("meet", "a", "b", "b"), ("meet", "b", "b", "c")), (("meet", "meet", "meet", "x"), "meet"),
            (("meet", "a", "b", ("meet", "a", "b", "c")), ("meet", "a", "b", "c")),
            (("meet", ("meet", "a", "x", "b"), "x", "c"), ("meet", "a", "x", ("meet", "b", "x", "c"))),
        ]:
            self.assertIsNone(self.check(word, other))
            self.assertIsNone(self.check(other, word))

    def test_unlike(self):
        self.assertIn(self.check("a", "b"), [["a"], ["b"]])
        self.assertIn(self.check("b", "a"), [["a"], ["b"]])
        self.check("a", ("meet", "a", "b", "c"))
        self.check(("meet", ("meet", "a", "b", "c"), "d", "e"), ("meet", "a", "b", ("meet", "c", "d", "e")))
        self.check("meet", ("meet", "meet", "a", "b"))

    def test_names_rise(self):
        told = self.check(("meet", "z", "y", ("meet", "x", "w", "v")), ("meet", "z", "z", "y"))
        self.assertEqual(told, sorted(told))

    def test_many_words(self):
        chance = random.Random(17)
        found = {True: 0, False: 0}
        for _ in range(400):
            names = list("dcba")[: chance.randint(1, 4)]
            word = random_word(chance, chance.randint(0, 5), names)
            other = random_word(chance, chance.randint(0, 5), names)
            found[self.check(word, other) is None] += 1
        self.assertGreater(min(found.values()), 40)

    def test_eight_names_in_both(self):
        chance = random.Random(18)
        for _ in range(10):
            word = random_word(chance, 40, list("abcdefgh"))
            self.check(word, random_word(chance, 40, list("abcdefgh")))
            self.assertIsNone(self.check(word, ("meet", word[2], word[1], word[3])))
        self.check(named(list("abcde")), named(list("fgh")))

    def test_alike_is_so_in_towns(self):
        chance = random.Random(19)
        towns = list(brute.plain_towns(20, 20, 4))
        for _ in range(60):
            word = random_word(chance, chance.randint(0, 4), list("abc"))
            other = random_word(chance, chance.randint(0, 4), list("abc"))
            same = True
            for _, spots in towns + [(Town(1, []), [(1,), (-1,)])]:
                for chosen in itertools.product(spots[:4], repeat=3):
                    by = dict(zip("abc", chosen))
                    same = same and told_by(word, by) == told_by(other, by)
            self.assertIs(parting(word, other) is None, same)
