import copy
import unittest
from itertools import combinations, permutations, product

from poleribbons.dances import Dance
from poleribbons.ribbons import crossings
from poleribbons.rules import Rule
from poleribbons.tellback import are_forms, is_refusal, joined_rule, many_told, refusal, told_back
from poleribbons.words import Word
from cloths import DANCES
from samples import LONG, ODD_VALUES, RULES, WORDS, nested
from tellings import (GREAT_FORMS, SIZES, SMALL_FORMS, all_texts, cloth_made, cloths_by_number, is_odd_one, laid,
                      meetings_of, words_of)

RULE = RULES[13]


def all_bits(many):
    """All strings of so many bits, or some of them if they are many."""
    whole = ["".join(bits) for bits in product("01", repeat=many)]
    return whole if many <= 6 else whole[::(1 << many) // 61] + whole[-1:]


def bits_of(crossed, s, m, r):
    return "".join(crossed[i, j][q] for q, i, j in meetings_of(s, m, r))


def small_cases():
    """All small forms with numbers of a dance, and the cloths that they make."""
    for number, forms in enumerate(SMALL_FORMS):
        for size in SIZES:
            yield forms, size, cloths_by_number(number, *size)


class Forms(unittest.TestCase):
    def test_lists_of_forms(self):
        readers = ["turns", "others", "rounds", "suns", "moons"]
        good = SMALL_FORMS + GREAT_FORMS + [[(reader, lead, period)] for reader in readers for lead in (0, 1, 24, LONG)
                                            for period in (1, 24, LONG)]
        good += [[("suns", 10 ** 999, 10 ** 999)], [("suns", 0, 1)] * 4, [("turns", 40, 40), ("moons", 40, 40)]]
        for thing in good:
            self.assertIs(are_forms(thing), True)

    def test_other_values(self):
        for thing in ODD_VALUES:
            if thing != []:
                self.assertIs(are_forms(thing), False)
            self.assertIs(are_forms([thing]), False)
            self.assertIs(are_forms([("suns", 0, 2), thing]), False)
            self.assertIs(are_forms([(thing, 0, 2)]), thing == "turns")
            self.assertIs(are_forms([("suns", thing, 2)]),
                          isinstance(thing, int) and not isinstance(thing, bool) and thing >= 0)
            self.assertIs(are_forms([("suns", 0, thing)]),
                          isinstance(thing, int) and not isinstance(thing, bool) and thing >= 1)

    def test_what_is_like_forms(self):
        bad = [[("suns", 0, 1)] * 5, [("suns", 0, 0)], [("suns", -1, 2)], [("suns", True, 2)], [("suns", 0, True)],
               [["suns", 0, 2]], (("suns", 0, 2),), ("suns", 0, 2), [("suns", 0)], [("suns", 0, 2, 0)],
               [("sun", 0, 2)], [("Suns", 0, 2)], [("always", 0, 2)], [(0, "suns", 2)], [("suns", "0", "2")],
               {("suns", 0, 2): True}, [[("suns", 0, 2)]], ["suns02"], [("suns", Word("", "1"), 2)],
               nested(40, lambda value: [value])]
        for thing in bad:
            self.assertIs(are_forms(thing), False)


class Joined(unittest.TestCase):
    def test_none_and_one(self):
        self.assertEqual(joined_rule([], []), Rule.always(False))
        for reader in ("turns", "others", "rounds", "suns", "moons"):
            for word in WORDS:
                self.assertEqual(joined_rule([(reader, word.lead, word.period)], [word]), Rule.by(reader, word))

    def test_from_the_left_in_their_order(self):
        one, two, three, four = Word("1", "0"), Word("", "10"), Word("", "011"), Word("00", "1")
        forms = [("turns", 1, 1), ("suns", 0, 2), ("turns", 0, 3), ("rounds", 2, 1)]
        parts = [("turns", "1", "0"), ("suns", "", "10"), ("turns", "", "011"), ("rounds", "00", "1")]
        joined = parts[0]
        for many, words in enumerate([[one, two], [one, two, three], [one, two, three, four]], 2):
            joined = ("unlike", joined, parts[many - 1])
            self.assertEqual(joined_rule(forms[:many], words).parts(), joined)

    def test_it_makes_the_cloth_of_the_words(self):
        for forms in SMALL_FORMS:
            for texts in list(all_texts(forms))[::7]:
                rule = joined_rule(forms, words_of(forms, texts))
                for size in SIZES[3::2]:
                    self.assertEqual(bits_of(crossings(Dance(*size, rule)), *size), cloth_made(forms, texts, *size))


class Told(unittest.TestCase):
    def test_all_small_cloths(self):
        both = set()
        for forms, size, cloths in small_cases():
            for bits in all_bits(size[0] * size[1] * size[2]) + list(cloths)[::5]:
                makers = cloths.get(bits, [])
                crossed = laid(bits, *size)
                self.assertEqual(told_back(crossed, forms), words_of(forms, makers[0]) if makers else None)
                self.assertEqual(many_told(crossed, forms), len(makers))
                both.add((makers == [], forms == []))
        self.assertEqual(len(both), 4)

    def test_the_least_by_the_strings_of_the_first_word_then_the_second(self):
        # The sun's word alone could be 01 or 10; so could that of the moon.
        forms = [("suns", 0, 2), ("moons", 1, 2)]
        crossed = crossings(Dance(2, 3, 1, joined_rule(forms, [Word("", "10"), Word("1", "00")])))
        found = told_back(crossed, forms)
        self.assertEqual([(word.early, word.again) for word in found], [("", "01"), ("0", "11")])
        self.assertEqual(many_told(crossed, forms), 2)

    def test_characters_that_are_read_nowhere(self):
        one = {(0, 0): "1"}
        self.assertEqual(told_back(one, [("suns", 0, 5)]), [Word("", "10000")])
        self.assertEqual(many_told(one, [("suns", 0, 5)]), 16)
        self.assertEqual(many_told(one, [("suns", 0, 80)]), 2 ** 79)
        self.assertEqual(told_back(one, [("moons", 3, 2), ("rounds", 1, 1)]), [Word("000", "00"), Word("1", "0")])
        self.assertEqual(many_told({(0, 0): "10"}, [("moons", 3, 2), ("rounds", 4, 4)]), 2 * 2 ** 4 * 2 ** 6)

    def test_no_forms(self):
        for size in SIZES:
            zeros = laid("0" * 99, *size)
            self.assertEqual([told_back(zeros, []), many_told(zeros, []), refusal(zeros, [])], [[], 1, None])
            for meeting in meetings_of(*size):
                bits = "".join("1" if other == meeting else "0" for other in meetings_of(*size))
                crossed = laid(bits, *size)
                self.assertEqual([told_back(crossed, []), many_told(crossed, [])], [None, 0])
                self.assertEqual(refusal(crossed, []), [meeting])

    def test_great_cloths(self):
        for forms in GREAT_FORMS:
            for number in (0, 5, 23456789, 10 ** 24 // 7):
                bits = bin(number)[2:].zfill(96) * 3
                texts, start = [], 0
                for _, lead, period in forms:
                    texts.append(bits[start:start + lead + period])
                    start += lead + period
                words = words_of(forms, texts)
                for size in [(8, 8, 6), (8, 1, 6), (1, 1, 1), (5, 7, 4)]:
                    crossed = crossings(Dance(*size, joined_rule(forms, words)))
                    found = told_back(crossed, forms)
                    self.assertEqual(crossings(Dance(*size, joined_rule(forms, found))), crossed)
                    self.assertEqual([(word.lead, word.period) for word in found], [form[1:] for form in forms])
                    written = [(word.early, word.again) for word in found]
                    self.assertLessEqual(written, [(word.early, word.again) for word in words])
                    self.assertEqual(many_told(crossed, forms) & (many_told(crossed, forms) - 1), 0)
                    self.assertIsNone(refusal(crossed, forms))

    def test_the_order_of_the_keys_means_nothing(self):
        for forms, size, cloths in list(small_cases())[::3]:
            for bits in all_bits(size[0] * size[1] * size[2])[::5]:
                crossed = laid(bits, *size)
                turned = dict(reversed(list(crossed.items())))
                self.assertEqual(told_back(turned, forms), told_back(crossed, forms))
                self.assertEqual(many_told(turned, forms), many_told(crossed, forms))
                self.assertEqual(refusal(turned, forms), refusal(crossed, forms))

    def test_the_sides_exchanged(self):
        # Promise 10; the truths turned about need a word that can be turned about.
        other = {"turns": "others", "others": "turns", "rounds": "rounds", "suns": "moons", "moons": "suns"}
        for forms in SMALL_FORMS[1:] + GREAT_FORMS:
            swapped = [(other[reader], lead, period) for reader, lead, period in forms]
            for dance in DANCES[::5]:
                self.assertEqual(many_told(crossings(dance.swapped()), swapped), many_told(crossings(dance), forms))


class Refusal(unittest.TestCase):
    def test_just_where_there_are_no_words(self):
        for forms, size, cloths in small_cases():
            for bits in all_bits(size[0] * size[1] * size[2]):
                crossed = laid(bits, *size)
                found = refusal(crossed, forms)
                if bits in cloths:
                    self.assertIsNone(found)
                else:
                    self.assertIsInstance(found, list)
                    self.assertEqual(found, sorted(set(found)))
                    self.assertTrue(set(found) <= set(meetings_of(*size)))
                    self.assertTrue(is_odd_one(forms, bits, found, *size))
                    self.assertIs(is_refusal(crossed, forms, found), True)

    def test_all_lists_of_meetings(self):
        seen = set()
        for number, forms in enumerate(SMALL_FORMS):
            for size in [(1, 2, 1), (2, 2, 1), (1, 1, 3), (2, 1, 2)]:
                meetings = meetings_of(*size)
                lists = [list(some) for many in range(len(meetings) + 1) for some in combinations(meetings, many)]
                for bits in all_bits(len(meetings))[::3]:
                    for some in lists:
                        expected = is_odd_one(forms, bits, some, *size)
                        self.assertIs(is_refusal(laid(bits, *size), forms, some), expected)
                        seen.add(expected)
        self.assertEqual(seen, {True, False})

    def test_in_any_order_but_each_once(self):
        crossed = laid("0111", 2, 2, 1)
        forms = [("suns", 0, 2), ("moons", 0, 2)]
        for some in permutations(meetings_of(2, 2, 1)):
            self.assertIs(is_refusal(crossed, forms, list(some)), True)
            self.assertIs(is_refusal(crossed, forms, tuple(some)), False)
            self.assertIs(is_refusal(crossed, forms, list(some) + [(0, 0, 1)] * 2), False)
            self.assertIs(is_refusal(crossed, forms, list(some)[:3]), False)
        # Twice the same meeting is not two different ones, though all is read evenly.
        self.assertIs(is_refusal(laid("1", 1, 1, 1), [], [(0, 0, 0)]), True)
        self.assertIs(is_refusal(laid("1", 1, 1, 1), [], [(0, 0, 0)] * 3), False)

    def test_other_values(self):
        crossed, forms = laid("10", 1, 2, 1), [("suns", 0, 1)]
        self.assertIs(is_refusal(crossed, forms, [(0, 0, 1), (0, 0, 0)]), True)
        others = [[(0, 0, 0), (0, 0, True)], [(False, 0, 0), (0, 0, 1)], [(0, 0, 0), (0, 0, 2)], [(0, 0, 0), (1, 0, 1)],
                  [(0, 0, 0), (0, 1, 1)], [(0, 0, 0), [0, 0, 1]], [(0, 0, 0), (0, 0, -1)], [(0, 0, 0), None],
                  {(0, 0, 0): 0, (0, 0, 1): 0}, {(0, 0, 0), (0, 0, 1)}, [[(0, 0, 0), (0, 0, 1)]], [(0, 0, 0)] * 9999]
        for thing in ODD_VALUES + others:
            self.assertIs(is_refusal(crossed, forms, thing), False)
            self.assertIs(is_refusal(crossed, forms, [(0, 0, 0), thing]), False)

    def test_great_cloths(self):
        for forms in GREAT_FORMS:
            for rule in RULES[:8]:
                crossed = crossings(Dance(8, 8, 6, joined_rule(forms, words_of(forms, ["01" * 48] * 4))))
                crossed[7, 7] = "".join("10"[rule(r, 7, 7, 8, 8)] for r in range(6))
                found = refusal(crossed, forms)
                self.assertIs(found is None, many_told(crossed, forms) > 0)
                if found is not None:
                    self.assertTrue(is_odd_one(forms, bits_of(crossed, 8, 8, 6), found, 8, 8, 6))
                    self.assertIs(is_refusal(crossed, forms, found[::-1]), True)
                    self.assertIs(is_refusal(crossed, forms, found[1:]), False)


class Kept(unittest.TestCase):
    def test_nothing_that_is_passed_changes_and_all_is_new(self):
        forms = [("suns", 0, 2), ("moons", 0, 2)]
        for bits in ("0110", "0111"):
            crossed = laid(bits, 2, 2, 1)
            passed = copy.deepcopy((crossed, forms))
            for act in (told_back, many_told, refusal):
                first = act(crossed, forms)
                kept = copy.copy(first)
                if isinstance(first, list):
                    first.clear()
                self.assertEqual(act(crossed, forms), kept)
            thing = meetings_of(2, 2, 1)
            is_refusal(crossed, forms, thing)
            are_forms(forms)
            self.assertEqual((crossed, forms), passed)
            self.assertEqual(thing, meetings_of(2, 2, 1))
        words = [Word("", "10"), Word("", "01")]
        joined_rule(forms, words)
        self.assertEqual(words, [Word("", "10"), Word("", "01")])


if __name__ == "__main__":
    unittest.main()
