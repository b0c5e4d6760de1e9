import random
import re
import unittest

from meetrow.errors import NoText
from meetrow.hall import Hall
from meetrow.texts import read_hall, read_stand, read_town, show_hall, show_stand, show_town
from meetrow.towns import Town
from tests import brute
from tests.slow_hall import SlowHall
from tests.test_hall import REFUSALS, ByTheWords
from tests.test_towns import block, path

MOST = 10 ** 100
NUMBER = "(0|-?[1-9][0-9]*)"
NAME = "([a-z]{1,8})"
SPOT = "([+-]+|[.])"
# Towns of more cuts than the slow reader lists.
LARGE = re.compile("town [1-9][0-9]")
DEEDS = [
    ("row", f"{NAME}((?: {SPOT}){{1,60}})"), ("ring", f"{NAME}((?: {SPOT}){{1,60}})"), ("go", "(0|[1-9][0-9]*)"),
    ("carry", f"{NUMBER} {SPOT}"), ("part", f"{NUMBER} {NAME}"), ("unclose", NUMBER), ("hook", f"{NAME} {NAME}"),
    ("close", NAME), ("drop", NAME), ("bell", f"{NAME} {NUMBER}((?: {NUMBER})*)"), ("unbell", NAME),
]


def spot_text(spot):
    return "".join("+" if side > 0 else "-" for side in spot) or "."


def spot_told(text):
    return () if text == "." else tuple(cut if sign == "+" else -cut for cut, sign in enumerate(text, 1))


def plain_text(many, spots):
    """The text of the town with these spots, or None where its bans would not be plain."""
    columns = [tuple(spot[cut] > 0 for spot in spots) for cut in range(many)]
    if not spots or any(len(set(column)) == 1 for column in columns):
        return None
    if len(set(columns) | {tuple(not on for on in column) for column in columns}) < 2 * many:
        return None
    pairs = [(one, other) for one in brute.sides(many) for other in brute.sides(many) if abs(one) < abs(other)]
    bans = [pair for pair in pairs if not any(pair[0] in spot and pair[1] in spot for spot in spots)]
    return "\n".join([f"town {many}"] + [f"ban {one} {other}" for one, other in bans])


def slow_read_town(text):
    """The spots of the town whose text it is, or None; for towns of at most six cuts."""
    rows = text.split("\n")
    if not re.fullmatch("town [0-6]", rows[0]):
        return None
    bans = [re.fullmatch(f"ban {NUMBER} {NUMBER}", row) for row in rows[1:]]
    if not all(bans):
        return None
    many = int(rows[0][5:])
    spots = brute.let(many, [(int(ban[1]), int(ban[2])) for ban in bans])
    return spots if plain_text(many, spots) == text else None


def slow_deed(row):
    """The deed whose row it is, or None."""
    for name, form in DEEDS:
        found = re.fullmatch(f"{name} {form}", row)
        if found is None:
            continue
        if name in ("row", "ring"):
            return name, found[1], [spot_told(word) for word in found[2].split()]
        if name == "bell":
            return name, found[1], int(found[2]), [int(word) for word in found[3].split()]
        if name == "carry":
            return name, int(found[1]), spot_told(found[2])
        return (name, *[int(word) if re.fullmatch(NUMBER, word) else word for word in found.groups()])
    return None


def slow_read_hall(text):
    """The slow hall whose text it is, or None."""
    rows = text.split("\n")
    bans = len(rows) - 1
    while bans and not all(row.startswith("ban ") for row in rows[1:bans + 1]):
        bans -= 1
    spots = slow_read_town("\n".join(rows[:bans + 1]))
    if spots is None:
        return None
    hall = SlowHall(len(spots[0]), spots)
    for row in rows[bans + 1:]:
        deed = slow_deed(row)
        if deed is None:
            return None
        try:
            hall.do(*deed)
        except REFUSALS:
            return None
    return hall


def otherwise(chance, text, signs="+-.0123abck \n"):
    """The text with one or two things otherwise."""
    for _ in range(chance.choice((1, 1, 2))):
        at = chance.randrange(len(text) + 1)
        kind = chance.randrange(6)
        rows = text.split("\n")
        row = chance.randrange(len(rows))
        words = rows[row].split(" ")
        if kind == 0:
            text = text[:at] + chance.choice(signs) + text[at:]
        elif kind == 1:
            text = text[:at] + text[at + 1:]
        elif kind == 2:
            text = text[:at] + chance.choice(signs) + text[at + 1:]
        elif kind == 3:
            rows.insert(chance.randrange(len(rows) + 1), rows.pop(row))
            text = "\n".join(rows)
        elif kind == 4:
            del rows[row]
            text = "\n".join(rows) or "x"
        else:
            rows[row] = " ".join(words[::-1]) if chance.random() < 0.3 else " ".join(words + words[-1:])
            text = "\n".join(rows)
    return text


class Case(unittest.TestCase):
    def same(self, told, due):
        self.assertEqual(brute.shape(told), brute.shape(due))

    def refused(self, asked, *handed):
        with self.assertRaises(NoText) as caught:
            asked(*handed)
        self.assertEqual(vars(caught.exception), {})


class Towns(Case):
    def test_texts(self):
        for town, due in ((Town(0, []), "town 0"), (Town(60, []), "town 60"),
                          (Town(3, [(3, -2), (2, 1)]), "town 3\nban 1 2\nban 1 3\nban -2 3")):
            self.same(show_town(town), due)
            self.same(str(town), due)
            self.assertIsInstance(read_town(due), Town)
            self.assertEqual(read_town(due), town)

    def test_by_the_words(self):
        for town, spots in brute.plain_towns(191):
            text = plain_text(len(town), spots)
            self.same(show_town(town), text)
            self.assertEqual(read_town(text), town)
        for town in (block(), Town(60, path(60))):
            self.assertEqual(read_town(show_town(town)), town)
        self.assertEqual(len(show_town(Town(60, path(60))).split("\n")), 1771)

    def test_what_is_no_text(self):
        right = "town 3\nban 1 2\nban 1 3\nban -2 3"
        read_town(right)
        for text in (
            "", " ", "\n", "town", "town ", "town 61", "town -1", "town -0", "town 00", "town 03", "town +3", "town 3 ",
            " town 3", "town  3", "town 3\n", "\ntown 3", "town 3 3", "Town 3", "3", "town x", "town three", "town 3.0",
            "town " + "9" * 200, "town 1" + "0" * 5000, "town -" + "1" * 5000, "town 3\n\nban 1 2", "town 3\tban 1 2",
            # bans: of no side, of one cut, out of order, a lesser side behind, left out, twice, none that are plain
            "town 3\nban 1 4", "town 3\nban 0 1", "town 3\nban 1 1", "town 3\nban 1 -1", "town 3\nban 1", "town 3\nban 1 2 3",
            "town 3\nban 1 3\nban 1 2\nban -2 3", "town 3\nban 2 1\nban 1 3\nban -2 3", "town 3\nban 1 2\nban -2 3",
            right + "\nban -2 3", "town 2\nban 1 2\nban 1 -2", "town 2\nban 1 2\nban -1 -2",
            "town 2\nban 1 2\nban 1 -2\nban -1 2\nban -1 -2", "town 2\nban 01 2", "town 2\nban 1 02", "town 2\nban +1 2",
            "town 2\nban 1  2", "town 2\nban 1 2 ", "town 2\n ban 1 2", "town 2\nban 1 2\n", "town 2\nbans 1 2", "town 2\n1 2",
            "town 2\nban 1 " + "9" * 5000, "ban 1 2", "ban 1 2\ntown 2", "town 2\ntown 2", "town 2\nban - 2", "town 2\nban 1 --2",
            "town 60" + "\nban 1 2" * 2001, right + "\nrow a +--",
        ):
            with self.subTest(text=text[:40]):
                self.refused(read_town, text)

    def test_texts_with_things_otherwise(self):
        chance = random.Random(192)
        found = {True: 0, False: 0}
        towns = [plain_text(len(town), spots) for town, spots in brute.plain_towns(193, 100, 4)]
        for _ in range(6000):
            text = otherwise(chance, chance.choice(towns), "-0123 \n")
            if LARGE.match(text):
                continue
            spots = slow_read_town(text)
            found[spots is None] += 1
            if spots is None:
                self.refused(read_town, text)
            else:
                self.assertEqual(read_town(text).spots(), spots)
                self.same(show_town(read_town(text)), text)
        self.assertGreater(min(found.values()), 100)


class Stands(Case):
    def test_texts(self):
        stand = [(1, -2), (-1, -2), (1, 2)]
        town = Town(2, [(-1, 2)])
        self.same(show_stand(stand), "row\n+-\n--\n++")
        self.same(show_stand(stand, ring=False), "row\n+-\n--\n++")
        self.same(show_stand(stand, ring=True), "ring\n+-\n--\n++")
        self.same(read_stand(town, "row\n+-\n--\n++"), (stand, False))
        self.same(read_stand(town, "ring\n+-\n--\n++"), (stand, True))
        self.same(show_stand([()]), "row\n.")
        self.same(read_stand(Town(0, []), "row\n."), ([()], False))
        self.same(read_stand(Town(0, []), "ring\n.\n.\n."), ([()] * 3, True))

    def test_by_the_words(self):
        for town, _, stand, ring in brute.stands(194):
            text = "\n".join(["ring" if ring else "row"] + [spot_text(spot) for spot in stand])
            before = list(stand)
            self.same(show_stand(stand, ring=ring), text)
            self.same(read_stand(town, text), (stand, ring))
            self.assertEqual(stand, before)

    def test_sixty_folk(self):
        for stand, ring in brute.long_stands():
            town = Town(len(stand[0]), [])
            self.same(read_stand(town, show_stand(stand, ring=ring)), (stand, ring))
        town = Town(1, [])
        for word in ("row", "ring"):
            self.same(read_stand(town, word + "\n+" * 60), ([(1,)] * 60, word == "ring"))
            self.refused(read_stand, town, word + "\n+" * 61)
            self.refused(read_stand, Town(0, []), word + "\n." * 61)

    def test_what_is_no_text(self):
        town = Town(2, [(-1, 2)])
        for text in (
            "", "row", "row\n", "ring", "ring\n+-", "ring\n+-\n--", "+-", "row\n-+", "row\n+-\n-+", "row\n+", "row\n+-+",
            "row\n.", "row\n+-\n", "row\n\n+-", "\nrow\n+-", "row\n+- --", "row\n+ -", "row\n +-", "row\n+- ", "row \n+-",
            "Row\n+-", "rows\n+-", "row +-", "row\n+-\nrow", "row\n+-\nring\n+-", "row\n+x", "row\n12", "row\n1 -2", "row\n+.",
        ):
            with self.subTest(text=text):
                self.refused(read_stand, town, text)
        for text in ("row\n", "row\n+", "row\n..", "ring\n.\n.", "row\n.\n", "row"):
            self.refused(read_stand, Town(0, []), text)

    def test_texts_with_things_otherwise(self):
        chance = random.Random(195)
        found = {True: 0, False: 0}
        for town, spots, stand, ring in brute.stands(196, 3000, 5):
            text = otherwise(chance, show_stand(stand, ring=ring), "+-.\n ir")
            first, *rows = text.split("\n")
            told = [spot_told(row) if re.fullmatch(SPOT, row) else None for row in rows]
            right = (first == "row" and rows or first == "ring" and len(rows) > 2) and set(told) <= set(spots)
            right = right and (len(town) > 0 or set(rows) == {"."})
            found[bool(right)] += 1
            if right:
                self.same(read_stand(town, text), (told, first == "ring"))
            else:
                self.refused(read_stand, town, text)
        self.assertGreater(min(found.values()), 100)

    def test_what_is_told_is_new(self):
        town = Town(1, [])
        read_stand(town, "row\n+")[0].append(7)
        self.same(read_stand(town, "row\n+"), ([(1,)], False))


def full_hall():
    """A hall in which each deed is done."""
    hall = Hall(Town(2, [(1, 2)]))
    hall.row("a", [(1, -2), (-1, 2), (-1, -2)])
    hall.ring("row", [(1, -2), (-1, 2), (-1, -2)])
    hall.go(MOST)
    hall.carry(1, (1, -2))
    hall.bell("a", 4, [-2, 1, -2])
    hall.bell("all", 0, [])
    hall.part(0, "abcdefgh")
    hall.unclose(3)
    hall.hook("a", "row")
    hall.close("a")
    hall.unbell("all")
    hall.drop("abcdefgh")
    hall.go(0)
    return hall


FULL = """town 2
ban 1 2
row a +- -+ --
ring row +- -+ --
go 1""" + "0" * 100 + """
carry 1 +-
bell a 4 -2 1 -2
bell all 0
part 0 abcdefgh
unclose 3
hook a row
close a
unbell all
drop abcdefgh
go 0"""


class Halls(Case):
    def alike(self, hall, other):
        self.assertIsInstance(other, Hall)
        self.assertEqual(other.town(), hall.town())
        self.same(other.deeds(), hall.deeds())
        for one, two in ((hall, other),):
            self.same((two.words(), two.now(), two.bells()), (one.words(), one.now(), one.bells()))
            self.same([(two.stand(word), two.folk_of(word), two.is_ring(word)) for word in two.words()],
                      [(one.stand(word), one.folk_of(word), one.is_ring(word)) for word in one.words()])
            self.same([two.rung(word) for word in two.bells()], [one.rung(word) for word in one.bells()])

    def test_each_deed(self):
        hall = full_hall()
        self.same(show_hall(hall), FULL)
        self.alike(hall, read_hall(FULL))
        self.same(show_hall(read_hall(FULL)), FULL)

    def test_no_deeds_and_no_cuts(self):
        self.same(show_hall(Hall(Town(0, []))), "town 0")
        self.alike(Hall(Town(0, [])), read_hall("town 0"))
        hall = Hall(Town(0, []))
        hall.ring("a", [(), (), ()])
        hall.carry(2, ())
        self.same(show_hall(hall), "town 0\nring a . . .\ncarry 2 .")
        self.alike(hall, read_hall(show_hall(hall)))

    def test_deeds_taken_back_are_not_told(self):
        hall = full_hall()
        deeds = FULL.split("\n")
        while hall.deeds():
            hall.back()
            deeds.pop()
            self.same(show_hall(hall), "\n".join(deeds))
            self.alike(hall, read_hall(show_hall(hall)))
        hall.row("b", [(1, -2)])
        self.same(show_hall(hall), "town 2\nban 1 2\nrow b +-")
        # What is read goes on as any hall does.
        other = read_hall(FULL)
        other.back()
        other.back()
        self.same(show_hall(other), "\n".join(FULL.split("\n")[:-2]))

    def test_halls_of_any_deeds(self):
        chance = random.Random(197)
        towns = list(brute.plain_towns(198, 60, 3))
        made = ByTheWords()
        found = {True: 0, False: 0}
        for _ in range(150):
            town, spots = chance.choice(towns)
            hall, slow = Hall(town), SlowHall(len(town), spots)
            for _ in range(chance.randint(1, 20)):
                name, *handed = made.random_deed(chance, slow, spots)
                if made.result(slow.do, name, *handed) == brute.shape(None):
                    getattr(hall, name)(*handed)
            text = show_hall(hall)
            self.alike(hall, read_hall(text))
            for _ in range(12):
                other = otherwise(chance, text)
                if LARGE.match(other):
                    continue
                due = slow_read_hall(other)
                found[due is None] += 1
                if due is None:
                    self.refused(read_hall, other)
                else:
                    self.same(read_hall(other).deeds(), due.deeds)
                    self.same(show_hall(read_hall(other)), other)
        self.assertGreater(min(found.values()), 100)

    def test_greatest_numbers(self):
        town = "town 1\n"
        self.same(read_hall(town + f"go {MOST}").now(), MOST)
        sixty = read_hall(town + "row a" + " +" * 60)
        self.same(sixty.stand("a"), [(1,)] * 60)
        self.same(read_hall(town + "ring a" + " +" * 60).folk_of("a"), list(range(60)))
        for row in (f"go {MOST + 1}", "go 1" + "0" * 101, "go " + "9" * 5000, "go -1", "go -0", "go 00", "row a" + " +" * 61,
                    "ring a" + " +" * 61, "row a" + " +" * 60 + "\nrow b +"):
            self.refused(read_hall, town + row)

    def test_what_is_no_text(self):
        head = "town 2\nban 1 2\nrow a +- -+ --\nring o +- -+ --\nrow b --\nbell d 0 1\n"
        read_hall(head + "go 1")
        for row in (
            "", " ", "go", "go ", "go  1", " go 1", "go 1 ", "go 1 1", "go x", "go +1", "go 01", "go 1.0", "Go 1", "wait 1", "1",
            "back", "back 1", "row", "row c", "row c ", "row  +-", "row c +- ", "row c  +-", "row c ++", "row c +", "row c +-+",
            "row c .", "row c 12", "row c 1 -2", "row +- c", "row a +-", "row C +-", "row c1 +-", "row abcdefghi +-", "row - +-",
            "ring c +- --", "ring c", "ring o +- -+ --", "ring c +- -+ ++", "carry", "carry 0", "carry 0 ++", "carry 7 +-",
            "carry -1 +-", "carry x +-", "carry 00 +-", "carry 0 +- +-", "carry +- 0", "carry " + "9" * 5000 + " +-", "carry -0 +-",
            "part 0", "part 0 a", "part 2 c", "part 3 c", "part 9 c", "part 0 c d", "part c 0", "part 0 C", "unclose 0", "unclose",
            "unclose 9", "unclose o", "unclose 3 4", "hook a", "hook a a", "hook a o", "hook o a", "hook a c", "hook c a",
            "hook a b b", "hook 0 6", "close", "close o", "close b", "close c", "close a a", "drop", "drop c", "drop a b", "drop 0",
            "bell", "bell e", "bell d 0 1", "bell e 9 1", "bell e 0 1 2", "bell e 0 3", "bell e 0 0", "bell e 0 +-", "bell e x 1",
            "bell e 0 01", "bell e 0 1 -1", "bell E 0 1", "bell e 0 ", "bell e  0", "unbell", "unbell e", "unbell d d", "unbell a",
            "town 2", "ban 1 2", "ban 1 -2", "go 1\n", "go 1\n\ngo 1", "go 1\nban 1 2", "wait", "row c +-\nrow c +-",
            "d" * 300, "words", "stand a", "deeds",
        ):
            with self.subTest(row=row[:40]):
                self.refused(read_hall, head + row)
                self.refused(read_hall, head + row + "\ngo 1")
        for text in ("", "go 1", "row a +-\ntown 2", "town 2\nban 2 1\ngo 1", "town 61\ngo 1", "town 2\nban 1 2\nban 1 2\ngo 1",
                     "town 2\ngo 1\nban 1 2", "\ntown 2\ngo 1", "town 2\n", "town 2\nban\ngo 1", "town 3\nban 1 2\nban -2 3\ngo 1"):
            self.refused(read_hall, text)
