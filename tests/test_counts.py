import copy
import unittest
from itertools import product

from poleribbons.counts import cloth_bits, cloth_number, many_cloths, nth_cloth
from poleribbons.dances import Dance
from poleribbons.errors import NoCloth
from poleribbons.ribbons import are_crossings, crossings
from poleribbons.tellback import joined_rule, many_told, told_back
from cloths import DANCES
from samples import LONG, ODD_VALUES, RULES
from tellings import GREAT_FORMS, SIZES, SMALL_FORMS, cloths_by_number, laid, meetings_of, words_of


class Bits(unittest.TestCase):
    def test_all_meetings_ascending(self):
        for dance in DANCES + [Dance(8, 8, 6, RULES[13])]:
            expected = "".join("1" if dance.above(meeting) else "0" for meeting in dance.meetings())
            crossed = crossings(dance)
            self.assertEqual(cloth_bits(crossed), expected)
            self.assertEqual(cloth_bits(dict(reversed(list(crossed.items())))), expected)

    def test_known_by_hand(self):
        self.assertEqual(cloth_bits({(0, 0): "0"}), "0")
        self.assertEqual(cloth_bits({(0, 0): "011"}), "011")
        self.assertEqual(cloth_bits({(0, 0): "01", (0, 1): "10", (1, 0): "11", (1, 1): "00"}), "01101010")

    def test_crossings_of_no_rule(self):
        for size in SIZES:
            many = size[0] * size[1] * size[2]
            for number in range(0, 1 << many, 7):
                bits = bin(number)[2:].zfill(many)
                self.assertEqual(cloth_bits(laid(bits, *size)), bits)


class Counts(unittest.TestCase):
    def test_all_cloths_in_the_order_of_their_bits(self):
        for number, forms in enumerate(SMALL_FORMS):
            for size in SIZES:
                expected = sorted(cloths_by_number(number, *size))
                self.assertEqual(many_cloths(forms, *size), len(expected))
                for at, bits in enumerate(expected):
                    crossed = nth_cloth(forms, *size, at)
                    self.assertEqual(list(crossed.items()), list(laid(bits, *size).items()))
                    self.assertEqual(cloth_number(forms, crossed), at)

    def test_cloths_that_no_words_make(self):
        seen = set()
        for number, forms in enumerate(SMALL_FORMS):
            for size in SIZES[:5]:
                made = sorted(cloths_by_number(number, *size))
                many = size[0] * size[1] * size[2]
                for bits in ["".join(some) for some in product("01", repeat=many)]:
                    expected = made.index(bits) if bits in made else None
                    self.assertEqual(cloth_number(forms, laid(bits, *size)), expected)
                    seen.add(expected is None)
        self.assertEqual(seen, {True, False})

    def test_no_forms(self):
        for s, m, r in SIZES + [(8, 8, 6)]:
            zeros = {pair: "0" * r for pair in product(range(s), range(m))}
            self.assertEqual([many_cloths([], s, m, r), nth_cloth([], s, m, r, 0)], [1, zeros])
            self.assertEqual(cloth_number([], zeros), 0)
            self.assertIsNone(cloth_number([], {**zeros, (0, 0): "0" * (r - 1) + "1"}))
            with self.assertRaises(NoCloth):
                nth_cloth([], s, m, r, 1)

    def test_words_that_are_read_nowhere_make_no_more(self):
        self.assertEqual(many_cloths([("suns", 0, 80)], 3, 2, 2), 8)
        self.assertEqual(many_cloths([("rounds", 6, 74)], 8, 8, 6), 64)
        # The bits of the rounds 0, 1, 2, and 3 to 5 together, can be turned about by either word.
        self.assertEqual(many_cloths([("turns", 47, 1), ("others", 31, 1)], 8, 8, 6), 2 ** 76)
        self.assertEqual(many_cloths([("turns", 48, 32)], 8, 8, 6), 2 ** 48)
        self.assertEqual(many_cloths([("suns", 0, 2), ("suns", 0, 2)], 2, 2, 1), 4)

    def test_great_cloths(self):
        for forms in GREAT_FORMS:
            for size in [(8, 8, 6), (8, 1, 6), (3, 8, 5)]:
                many = many_cloths(forms, *size)
                last = ""
                for number in sorted({0, 1, many // 3, many // 2, many - 1}):
                    crossed = nth_cloth(forms, *size, number)
                    self.assertIs(are_crossings(crossed), True)
                    self.assertEqual(cloth_number(forms, crossed), number)
                    self.assertLess(last, cloth_bits(crossed))
                    last = cloth_bits(crossed)
                    found = told_back(crossed, forms)
                    self.assertEqual(crossings(Dance(*size, joined_rule(forms, found))), crossed)
                    # Each cloth is made by as many lists of words.
                    characters = sum(lead + period for _, lead, period in forms)
                    self.assertEqual(many_told(crossed, forms) * many, 2 ** characters)

    def test_the_order_of_the_keys_means_nothing(self):
        forms = SMALL_FORMS[11]
        for number in range(many_cloths(forms, 2, 3, 2)):
            crossed = nth_cloth(forms, 2, 3, 2, number)
            self.assertEqual(cloth_number(forms, dict(reversed(list(crossed.items())))), number)

    def test_the_sides_exchanged(self):
        # Promise 10.
        other = {"turns": "others", "others": "turns", "rounds": "rounds", "suns": "moons", "moons": "suns"}
        for forms in SMALL_FORMS + GREAT_FORMS:
            swapped = [(other[reader], lead, period) for reader, lead, period in forms]
            for s, m, r in SIZES + [(8, 5, 6)]:
                self.assertEqual(many_cloths(swapped, m, s, r), many_cloths(forms, s, m, r))

    def test_rules_make_cloths_of_their_forms(self):
        forms = [("turns", 0, 2), ("suns", 0, 2)]
        for texts in product(["00", "01", "10", "11"], repeat=2):
            dance = Dance(3, 4, 2, joined_rule(forms, words_of(forms, texts)))
            number = cloth_number(forms, crossings(dance))
            self.assertEqual(nth_cloth(forms, 3, 4, 2, number), crossings(dance))
        self.assertIsNone(cloth_number(forms, crossings(Dance(3, 4, 2, RULES[14]))))


class NoNumbers(unittest.TestCase):
    def none(self, forms, size, thing):
        with self.assertRaises(NoCloth) as context:
            nth_cloth(forms, *size, thing)
        self.assertIs(context.exception.number, thing)

    def test_any_values(self):
        forms = [("suns", 0, 2)]
        for thing in ODD_VALUES:
            if isinstance(thing, int) and not isinstance(thing, bool) and 0 <= thing < 4:
                self.assertIs(are_crossings(nth_cloth(forms, 2, 2, 1, thing)), True)
            else:
                self.none(forms, (2, 2, 1), thing)
        for thing in (4, -1, -4, LONG, 2 ** 80, "1", b"1", [1], (1,), {1: 1}, True, False):
            self.none(forms, (2, 2, 1), thing)

    def test_the_first_one_that_there_is_not(self):
        for number, forms in enumerate(SMALL_FORMS):
            for size in SIZES:
                many = len(cloths_by_number(number, *size))
                self.none(forms, size, many)
                self.none(forms, size, -many)
        for forms in GREAT_FORMS:
            self.none(forms, (8, 8, 6), many_cloths(forms, 8, 8, 6))


class Kept(unittest.TestCase):
    def test_nothing_that_is_passed_changes_and_all_is_new(self):
        forms = [("suns", 0, 2), ("moons", 1, 2)]
        passed = copy.deepcopy(forms)
        first = nth_cloth(forms, 2, 3, 2, 3)
        kept = dict(first)
        self.assertEqual(cloth_number(forms, first), 3)
        cloth_bits(first)
        many_cloths(forms, 2, 3, 2)
        self.assertEqual(list(first.items()), list(kept.items()))
        self.assertEqual(forms, passed)
        first.clear()
        self.assertEqual(nth_cloth(forms, 2, 3, 2, 3), kept)
        self.assertEqual(list(kept), sorted(kept))
        self.assertEqual([len(text) for text in kept.values()], [2] * 6)
        self.assertEqual(len(meetings_of(2, 3, 2)), len(cloth_bits(kept)))


if __name__ == "__main__":
    unittest.main()
