import unittest
from itertools import product
from math import lcm

from poleribbons.errors import Wrong
from poleribbons.words import Word
from samples import LONG, ODD_VALUES, WORDS

BITS = [""] + ["".join(bits) for many in range(1, 5) for bits in product("01", repeat=many)]
SMALL = [Word(early, again) for early in BITS[:15] for again in BITS[1:]]


def told(early, again, x):
    """The bit x, counted out by hand."""
    text = early
    while len(text) <= x:
        text = text + again
    return text[x] == "1"


def written(word):
    return (word.early, word.again)


class Made(unittest.TestCase):
    def test_properties(self):
        word = Word("110", "01")
        self.assertEqual([word.early, word.again, word.lead, word.period], ["110", "01", 3, 2])
        self.assertEqual([Word("", "1").early, Word("", "1").lead, Word("", "1").period], ["", 0, 1])

    def test_words_of_greatest_length(self):
        word = Word("01" * 12, "110" * 8)
        self.assertEqual([word.lead, word.period, word(23), word(24), word(26), word(24 + 24 * LONG)],
                         [24, 24, True, True, False, True])

    def test_nothing_is_refused_for_its_length(self):
        word = Word("0" * 600, "1" * 601)
        self.assertEqual([word.lead, word.period, word(599), word(600)], [600, 601, False, True])

    def test_wrong_tells_the_first_place(self):
        for thing in ODD_VALUES:
            bits = type(thing) is str and set(thing) <= {"0", "1"}
            if not bits:
                self.wrong(0, thing, "1")
                self.wrong(0, thing, "")
                self.wrong(0, thing, thing)
            if not bits or thing == "":
                self.wrong(1, "", thing)
                self.wrong(1, "01", thing)
        self.wrong(0, "012", "2")
        self.wrong(0, ["0"], "1")
        self.wrong(0, ("0", "1"), "1")
        self.wrong(1, "", "")
        self.wrong(1, "0", "1 ")
        self.wrong(1, "0", ["1"])

    def wrong(self, place, early, again):
        with self.assertRaises(Wrong) as context:
            Word(early, again)
        self.assertEqual(context.exception.place, place)
        self.assertIs(type(context.exception.place), int)

    def test_equal_if_written_alike(self):
        for one, other in product(SMALL[::3], SMALL[::4]):
            self.assertIs(one == other, written(one) == written(other))
            self.assertIs(one != other, written(one) != written(other))
        self.assertIs(Word("1", "0") == Word("1", "0"), True)
        self.assertIs(Word("", "1") == Word("", "11"), False)
        self.assertIs(Word("", "1") == Word("1", "1"), False)

    def test_equal_to_nothing_else(self):
        word = Word("", "1")
        for thing in [None, 0, True, "1", "", ("", "1"), ["", "1"], {}, b"1", object()]:
            self.assertIs(word == thing, False)
            self.assertIs(thing == word, False)
            self.assertIs(word != thing, True)


class Bits(unittest.TestCase):
    def test_each_bit(self):
        for word in SMALL:
            for x in range(14):
                self.assertIs(word(x), told(word.early, word.again, x))

    def test_places_of_forty_digits(self):
        word = Word("110", "1000")
        base = 3 + 4 * (LONG // 4)
        self.assertEqual([word(base + k) for k in range(6)], [True, False, False, False, True, False])
        self.assertIs(Word("", "10")(10 ** 999), True)
        self.assertIs(Word("", "10")(10 ** 999 + 1), False)
        self.assertIs(Word("0", "10")(10 ** 999), False)

    def test_bits(self):
        for word in SMALL:
            for many in (0, 1, 2, 3, 7, 20):
                self.assertEqual(word.bits(many), "".join("01"[word(x)] for x in range(many)))

    def test_bits_of_no_and_of_a_thousand(self):
        for word in WORDS:
            self.assertEqual(word.bits(0), "")
            thousand = word.bits(1000)
            self.assertEqual(len(thousand), 1000)
            self.assertEqual([bit == "1" for bit in thousand], [word(x) for x in range(1000)])

    def test_asking_changes_nothing(self):
        word = Word("10", "110")
        answers = [[word(5), word.bits(9), written(word.plain()), written(word.later(4)), written(~word),
                    written(word & word), written(word ^ Word("", "10")), word.same(word)] for _ in range(2)]
        self.assertEqual(answers[0], answers[1])
        self.assertEqual(written(word), ("10", "110"))


class OtherWords(unittest.TestCase):
    def test_plain_has_the_same_bits_the_least_lead_and_then_the_least_period(self):
        for word in SMALL:
            plain = word.plain()
            self.assertIsInstance(plain, Word)
            self.assertEqual(plain.bits(40), word.bits(40))
            self.assertEqual((plain.lead, plain.period), self.least(word))
            self.assertEqual(plain.plain(), plain)

    def least(self, word):
        """The least lead and period with which the bits can be written."""
        bits = word.bits(40)
        for lead, period in product(range(word.lead + 1), range(1, word.period + 1)):
            if all(bits[x] == bits[x + period] for x in range(lead, 40 - period)):
                return (lead, period)

    def test_plain_of_long_words(self):
        self.assertEqual(Word("01" * 12, "01" * 12).plain(), Word("", "01"))
        self.assertEqual(Word("0" * 23 + "1", "0" * 24).plain(), Word("0" * 23 + "1", "0"))
        self.assertEqual(Word("1" * 24, "1" * 600).plain(), Word("", "1"))
        self.assertEqual(Word("011", "0110" * 6).plain(), Word("011", "0110"))
        self.assertEqual(Word("10", "110" * 8).plain(), Word("", "101"))

    def test_same_if_the_bits_are(self):
        for one, other in product(SMALL[::2], SMALL[::5]):
            self.assertIs(one.same(other), one.bits(40) == other.bits(40))

    def test_same_of_words_that_are_written_otherwise(self):
        self.assertIs(Word("1", "01").same(Word("", "1010")), True)
        self.assertIs(Word("10", "10").same(Word("1", "01")), True)
        self.assertIs(Word("1", "01").same(Word("", "01")), False)
        self.assertIs(Word("0" * 24, "0").same(Word("", "0" * 24)), True)
        self.assertIs(Word("0" * 23 + "1", "0").same(Word("", "0" * 24)), False)

    def test_later_has_the_bits_from_there_on(self):
        for word in SMALL[::2]:
            for many in range(12):
                later = word.later(many)
                self.assertEqual(later.bits(20), word.bits(20 + many)[many:])
                self.assertEqual(later.lead, max(0, word.lead - many))
                self.assertEqual(later.period, word.period)

    def test_later_as_it_is_written(self):
        word = Word("110", "100")
        self.assertEqual([written(word.later(many)) for many in range(7)],
                         [("110", "100"), ("10", "100"), ("0", "100"), ("", "100"), ("", "001"), ("", "010"),
                          ("", "100")])

    def test_later_by_any_length(self):
        self.assertEqual(Word("110", "1000").later(3 + 4 * LONG + 1), Word("", "0001"))
        self.assertEqual(Word("1", "10").later(10 ** 999), Word("", "01"))

    def test_not(self):
        for word in SMALL:
            turned = ~word
            self.assertEqual((turned.lead, turned.period), (word.lead, word.period))
            self.assertEqual([turned(x) for x in range(12)], [not word(x) for x in range(12)])
            self.assertEqual(~turned, word)

    def test_words_put_together(self):
        signs = [(lambda one, other: one & other, lambda a, b: a and b),
                 (lambda one, other: one | other, lambda a, b: a or b),
                 (lambda one, other: one ^ other, lambda a, b: a != b)]
        for one, other in product(SMALL[::7], SMALL[::6]):
            for sign, truth in signs:
                both = sign(one, other)
                self.assertEqual(both.lead, max(one.lead, other.lead))
                self.assertEqual(both.period, lcm(one.period, other.period))
                self.assertEqual([both(x) for x in range(30)], [truth(one(x), other(x)) for x in range(30)])

    def test_periods_are_taken_as_they_are_written(self):
        both = Word("", "1010") & Word("00", "111")
        self.assertEqual(written(both), ("00", "101010101010"))
        self.assertEqual((Word("", "1" * 24) ^ Word("", "1" * 23)).period, 552)

    def test_signs_change_neither(self):
        one, other = Word("1", "10"), Word("", "100")
        self.assertEqual([written(one & other), written(one | other), written(one ^ other), written(~one)],
                         [("1", "001000"), ("1", "101011"), ("0", "100011"), ("0", "01")])
        self.assertEqual([written(one), written(other)], [("1", "10"), ("", "100")])


if __name__ == "__main__":
    unittest.main()
