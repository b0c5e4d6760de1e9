"""The names, arguments and places that the document's interface lists."""

import importlib
import inspect
import unittest

FUNCTIONS = {
    "bans": ["are_bans(many, thing)", "led(many, bans, side)", "road(many, bans, side, other)", "nothing(many, bans)",
             "is_nothing(many, bans, thing)"],
    "plain": ["plain(many, bans)"],
    "ways": ["apart(one, other)", "is_between(one, middle, other)", "meet(one, two, three)", "streets_at(town, spot)",
             "way(town, one, other)"],
    "words": ["is_word(thing)", "show_word(word)", "read_word(text)", "told_by(word, spots)", "parting(word, other)"],
    "quarters": ["quarter(town, sides)", "hull(town, spots)", "gate(town, spot, sides)", "parted(town, sides, other)",
                 "wish_spot(town, wishes)", "wish_clash(town, wishes)"],
    "crowds": ["crowd_sum(crowd, spot)", "fair(town, crowd, *, within=())"],
    "beats": ["beat(stand, *, ring=False)", "behind(stand, beats, *, ring=False)", "held(stand, cut, *, ring=False)",
              "rest(stand, *, ring=False)", "first_at(stand, folk, spot, *, ring=False)",
              "first_meet(stand, one, other, *, ring=False)"],
    "papers": ["paper(town, stand, folk, beats, *, ring=False)",
               "is_paper(town, stand, folk, beats, spot, thing, *, ring=False)"],
    "rests": ["is_at_rest(stand, *, ring=False)", "rests(town, folk, *, ring=False)",
              "rest_at(town, folk, number, *, ring=False)"],
    "webs": ["town_of_web(many, streets)", "web_of(town)"],
    "books": ["book_of(town, spot)", "is_book(many, thing)", "town_of_book(book)"],
    "cubes": ["cubes(town)"],
    "makers": ["tree(elders)", "floor(wide, high)", "product(town, other)", "joined(town, spot, other, other_spot)"],
    "maps": ["led_by(table, spot)", "is_map(town, goal, table)", "map_of(town, goal, spots)"],
    "settings": ["closed(many, settings)", "plain_of(many, settings)", "unclosed(settings)"],
    "tallies": ["walked(stand, folk, beats, *, ring=False)", "comings(stand, folk, sides, beats, *, ring=False)",
                "alike_from(stand, other, *, ring=False)"],
    "counts": ["ways_many(town, one, other)", "way_at(town, one, other, number)"],
    "mends": ["mend(town, stand, *, ring=False)"],
    "texts": ["show_town(town)", "read_town(text)", "show_stand(stand, *, ring=False)", "read_stand(town, text)",
              "show_hall(hall)", "read_hall(text)"],
    "packs": ["pack(stand)", "unpack(town, folk, data)"],
    "befores": ["befores(town, stand, *, ring=False)", "before_at(town, stand, number, *, ring=False)"],
}
CLASSES = {
    "towns": {"Town": ["__init__(self, many, bans)", "bans(self)", "is_spot(self, thing)", "follows(self, side)",
                       "spots(self)", "spot_on(self, sides)", "clash(self, sides)", "__eq__(self, other)",
                       "__len__(self)", "__str__(self)"]},
    "hall": {"Hall": ["__init__(self, town)", "town(self)", "deeds(self)", "row(self, word, stand)",
                      "ring(self, word, stand)", "go(self, beats)", "carry(self, folk, spot)", "part(self, folk, word)",
                      "unclose(self, folk)", "hook(self, word, other)", "close(self, word)", "drop(self, word)",
                      "back(self)", "words(self)", "now(self)", "stand(self, word)", "folk_of(self, word)",
                      "is_ring(self, word)", "far(self, word, beats)", "rest(self, word)", "first_at(self, folk, spot)",
                      "first_meet(self, one, other)", "paper(self, folk, beats)", "was(self, folk, moment)",
                      "bell(self, word, folk, sides)", "unbell(self, word)", "bells(self)", "rung(self, word)",
                      "tolls(self, word, beats)"]},
}


class Interface(unittest.TestCase):
    def test_functions(self):
        for file, told in FUNCTIONS.items():
            module = importlib.import_module("meetrow." + file)
            for row in told:
                with self.subTest(row):
                    made = vars(module)[row.split("(")[0]]
                    self.assertTrue(inspect.isfunction(made))
                    self.assertEqual(made.__module__, "meetrow." + file)
                    self.assertEqual(made.__name__ + str(inspect.signature(made)), row)

    def test_classes(self):
        for file, told in CLASSES.items():
            module = importlib.import_module("meetrow." + file)
            for name, methods in told.items():
                made = vars(module)[name]
                self.assertEqual(made.__module__, "meetrow." + file)
                for row in methods:
                    with self.subTest(row):
                        method = vars(made)[row.split("(")[0]]
                        self.assertEqual(method.__name__ + str(inspect.signature(method)), row)
