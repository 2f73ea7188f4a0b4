import unittest

from poleribbons.kinds import are_bits, is_count, is_integer, is_number, is_reader, is_side
from samples import LONG, ODD_VALUES

READERS = ["turns", "others", "rounds", "suns", "moons"]


class Kinds(unittest.TestCase):
    def check(self, asked, those, others):
        for thing in those:
            self.assertIs(asked(thing), True, repr(thing)[:60])
        for thing in others:
            self.assertIs(asked(thing), False, repr(thing)[:60])

    def test_is_integer(self):
        self.check(is_integer, [0, 1, -1, 7, LONG, -LONG, 10 ** 999, -(10 ** 999)],
                   [True, False, None, "", "0", "1", b"1", [0], (0,), {}, {0: 0}, [], ()])

    def test_is_count(self):
        self.check(is_count, [0, 1, 2, LONG, 10 ** 999],
                   [-1, -LONG, True, False, None, "", "0", [0], (0,), {}, {0: 0}])

    def test_is_number(self):
        self.check(is_number, [1, 2, LONG, 10 ** 999],
                   [0, -1, -LONG, True, False, None, "", "1", [1], (1,), {}, {1: 1}])

    def test_are_bits(self):
        self.check(are_bits, ["", "0", "1", "01", "10" * 5000],
                   [0, 1, True, False, None, "2", "01 ", " 01", "0 1", "01\n", "0a1", "-1", "O", "l", b"", b"01",
                    ["0"], ("0", "1"), [], (), {}, {"0": "1"}, "10" * 5000 + "2"])

    def test_is_side(self):
        self.check(is_side, ["sun", "moon"],
                   ["", "s", "su", "suns", "moons", "Sun", "MOON", " sun", "sun ", "sunmoon", "sun\n", 0, True, None,
                    b"sun", ["sun"], ("sun",), ("sun", "moon"), {"sun": 0}, {}])

    def test_is_reader(self):
        self.check(is_reader, READERS,
                   ["", "turn", "other", "round", "sun", "moon", "Turns", " suns", "moons ", "always", "not", "turns\n",
                    0, 1, False, None, b"turns", ["turns"], ("turns",), tuple(READERS), READERS, {"turns": 0}, {}])

    def test_any_value_is_told_by_a_truth(self):
        for asked in (is_integer, is_count, is_number, are_bits, is_side, is_reader):
            for thing in ODD_VALUES:
                self.assertIn(asked(thing), (True, False))
                self.assertIs(type(asked(thing)), bool)

    def test_values_of_any_kind(self):
        integers = [0, 1, -1, 7, LONG, 10 ** 999, -(10 ** 999)]
        strings = ["", "0", "1", "01"]
        for thing in ODD_VALUES:
            plain = type(thing) is int
            self.assertEqual(is_integer(thing), plain and thing in integers)
            self.assertEqual(is_count(thing), plain and thing >= 0)
            self.assertEqual(is_number(thing), plain and thing > 0)
            self.assertEqual(are_bits(thing), type(thing) is str and thing in strings)
            self.assertEqual(is_side(thing), type(thing) is str and thing == "sun")
            self.assertEqual(is_reader(thing), type(thing) is str and thing == "turns")


if __name__ == "__main__":
    unittest.main()
