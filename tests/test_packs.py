import itertools
import random
import unittest

from meetrow.errors import NoText
from meetrow.packs import pack, unpack
from meetrow.towns import Town
from tests import brute
from tests.test_towns import path


def slow_pack(stand):
    """Byte by byte, bit by bit."""
    bits = [side > 0 for spot in stand for side in spot]
    packed = []
    while bits:
        eight, bits = bits[:8], bits[8:]
        packed.append(sum(128 >> at for at, bit in enumerate(eight) if bit))
    return bytes(packed)


class Packs(unittest.TestCase):
    def same(self, told, due):
        self.assertEqual(brute.shape(told), brute.shape(due))

    def refused(self, town, folk, data):
        with self.assertRaises(NoText) as caught:
            unpack(town, folk, data)
        self.assertEqual(vars(caught.exception), {})

    def test_a_pack(self):
        stand = [(1, -2, 3), (-1, -2, 3), (1, 2, 3)]
        self.same(pack(stand), bytes([0b10100111, 0b10000000]))
        self.same(unpack(Town(3, []), 3, bytes([0b10100111, 0b10000000])), stand)
        self.same(pack([(1,)]), b"\x80")
        self.same(pack([(-1,)]), b"\x00")
        self.same(pack([(-1,)] * 8 + [(1,)]), b"\x00\x80")

    def test_by_the_words(self):
        for town, _, stand, _ in brute.stands(181):
            before = list(stand)
            data = pack(stand)
            self.same(data, slow_pack(stand))
            self.same(unpack(town, len(stand), data), stand)
            self.assertEqual(stand, before)

    def test_all_bytes_of_small_stands(self):
        for town, spots in brute.plain_towns(182, 25, 4):
            for folk in (1, 2):
                right = {slow_pack(stand): list(stand) for stand in itertools.product(spots, repeat=folk)}
                for byte in range(256):
                    data = bytes([byte])
                    if data in right:
                        self.same(unpack(town, folk, data), right[data])
                    else:
                        self.refused(town, folk, data)

    def test_the_last_byte(self):
        for many in range(1, 18):
            town = Town(many, [])
            for folk in (1, 3):
                spot = tuple(cut * (-1) ** cut for cut in range(1, many + 1))
                data = pack([spot] * folk)
                self.same(len(data), (many * folk + 7) // 8)
                self.same(unpack(town, folk, data), [spot] * folk)
                for wrong in (data + b"\x00", data[:-1], b"\x00" + data, b"", data + data):
                    self.refused(town, folk, wrong)
                for bit in range(len(data) * 8 - many * folk):
                    self.refused(town, folk, data[:-1] + bytes([data[-1] | 1 << bit]))

    def test_no_cuts(self):
        none = Town(0, [])
        for folk in (1, 3, 60):
            self.same(pack([()] * folk), b"")
            self.same(unpack(none, folk, b""), [()] * folk)
            self.refused(none, folk, b"\x00")

    def test_sixty_folk_and_sixty_cuts(self):
        chance = random.Random(183)
        town = Town(60, path(60))
        spots = town.spots()
        stand = [chance.choice(spots) for _ in range(60)]
        data = pack(stand)
        self.same(data, slow_pack(stand))
        self.same(len(data), 450)
        self.same(unpack(town, 60, data), stand)
        self.refused(town, 59, data)
        self.refused(town, 60, data[:-1] + bytes([data[-1] ^ 4 | 8]) if data[-1] & 4 else b"")
        for _ in range(30):
            at, bit = chance.randrange(450), chance.randrange(8)
            wrong = data[:at] + bytes([data[at] ^ 1 << bit]) + data[at + 1:]
            bits = [sign == "1" for byte in wrong for sign in format(byte, "08b")]
            due = [tuple(cut if on else -cut for cut, on in enumerate(bits[60 * folk:60 * folk + 60], 1))
                   for folk in range(60)]
            if all(spot in spots for spot in due):
                self.same(unpack(town, 60, wrong), due)
            else:
                self.refused(town, 60, wrong)

    def test_spots_of_another_town(self):
        town = Town(2, [(1, 2)])
        self.same(unpack(town, 2, pack([(1, -2), (-1, 2)])), [(1, -2), (-1, 2)])
        self.refused(town, 2, pack([(1, -2), (1, 2)]))
        self.refused(town, 2, pack([(1, 2), (1, -2)]))

    def test_what_is_told_is_new(self):
        town = Town(1, [])
        unpack(town, 1, b"\x80").append(7)
        self.same(unpack(town, 1, b"\x80"), [(1,)])
