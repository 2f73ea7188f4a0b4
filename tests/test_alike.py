import unittest
from itertools import product
from math import lcm

from poleribbons.alike import alike, alike_seen, as_words, parted_at, parted_seen, told_always
from poleribbons.pictures import Colours
from poleribbons.rules import Rule
from poleribbons.words import Word
from samples import FORALL_RULES, LONG, RULES, moons, suns, turns

READERS = ["moons", "others", "rounds", "suns", "turns"]
RULE = RULES[13]
NO, YES = Rule.always(False), Rule.always(True)
SMALL = [rule for rule in FORALL_RULES if rule.lead + 2 * rule.period <= 6]
# Each has with SMALL's periods of 1 and 2 a least common multiple of at most 4.
COLOURS = [Colours("a", "a"), Colours("ab", "a"), Colours("ab", "ba"), Colours("a", "b"), Colours("aabb", "a"),
           Colours("abab", "acab"), Colours("b", "abb"), Colours("aab", "c")]
# Told in other ways, each the same as the first one of its row.
SAME = [
    [RULE, RULE ^ NO, ~~RULE, ~(RULE ^ YES), turns("1010", "10") ^ suns("1", "01"), RULE & (RULE | suns("", "1"))],
    [YES, ~NO, suns("1", "1"), turns("", "10") | ~turns("", "1010"), moons("", "10") | moons("", "01")],
    [suns("", "10") & moons("", "10"), ~(suns("", "01") | moons("", "01")), moons("1", "01") & suns("", "1010")],
    [Rule.by("rounds", Word("0", "1")), ~Rule.by("rounds", Word("1", "0")), Rule.by("rounds", Word("01", "11"))],
]


def boxes(rule, extra=1):
    """All dancers' numbers and meetings that can matter for a rule, and some more."""
    lead, period = rule.lead, rule.period
    bound = lead + 2 * period + extra
    for s, m in product(range(1, bound), repeat=2):
        for meeting in product(range(lead + period + extra), range(s), range(m)):
            yield s, m, meeting


def first_told(rule):
    """The least dancers' numbers and meeting at which a rule tells True, found among all."""
    return next(((s, m, meeting) for s, m, meeting in boxes(rule) if rule(*meeting, s, m)), None)


def seen(rule, colours, s, m, meeting):
    """What is seen, read off the rule and the strings of colours."""
    row, number = (colours.suns, meeting[1]) if rule(*meeting, s, m) else (colours.moons, meeting[2])
    return row[number % len(row)]


class Alike(unittest.TestCase):
    def test_against_all_meetings_of_small_dances(self):
        answers = set()
        for one, other in product(SMALL, repeat=2):
            if lcm(one.period, other.period) <= 4:
                expected = first_told(one ^ other)
                answers.add(expected)
                self.assertEqual(parted_at(one, other), expected)
                self.assertIs(alike(one, other), expected is None)
        self.assertGreater(len(answers), 8)

    def test_greater_periods(self):
        for one in FORALL_RULES[-9:]:
            for other in FORALL_RULES[-9:] + [NO, YES, one ^ NO, one & one | NO]:
                if lcm(one.period, other.period) <= 4:
                    expected = first_told(one ^ other)
                    self.assertEqual(parted_at(one, other), expected)
                    self.assertIs(alike(one, other), expected is None)

    def test_told_in_other_ways(self):
        for m, n in product(range(len(SAME)), repeat=2):
            for one, other in product(SAME[m], SAME[n]):
                self.assertIs(alike(one, other), m == n)
                self.assertIs(parted_at(one, other) is None, m == n)

    def test_parted_by_one_meeting_of_few_dances(self):
        # Turns and rounds are the same for one moon dancer, turns and moons in the first round.
        self.assertEqual(parted_at(turns("", "10"), Rule.by("rounds", Word("", "10"))), (1, 2, (0, 0, 1)))
        self.assertEqual(parted_at(turns("", "10"), moons("", "10")), (1, 1, (1, 0, 0)))
        self.assertEqual(parted_at(turns("", "10"), turns("", "10") ^ suns("00", "1")), (3, 1, (0, 2, 0)))
        self.assertEqual(parted_at(NO, moons("00", "0001")), (1, 6, (0, 0, 5)))
        self.assertEqual(parted_at(NO, Rule.by("rounds", Word("00", "0001"))), (1, 1, (5, 0, 0)))
        self.assertEqual(parted_at(NO, suns("", "0001") & moons("", "0001")), (4, 4, (0, 3, 3)))

    def test_parted_by_the_class_of_the_number_of_dancers_alone(self):
        # These two are unlike only where the number of moon dancers is a multiple of four, in the second round.
        one = turns("", "1000") & Rule.by("rounds", Word("0", "1")) & moons("1", "0")
        other = one & ~Rule.by("rounds", Word("010", "0"))
        self.assertEqual(parted_at(one, other), first_told(one ^ other))
        self.assertEqual(parted_at(one, other), (1, 4, (1, 0, 0)))
        self.assertIs(alike(one, other), False)

    def test_what_holds_below_holds_for_great_numbers(self):
        # Promise 6.
        numbers = [0, 1, 2, LONG, LONG + 1, 10 ** 40 - 12]
        for row in SAME:
            for one, other in product(row, repeat=2):
                for r, i, j in product(numbers, repeat=3):
                    for s, m in [(10 ** 40 - 1, 10 ** 40 - 2), (10 ** 40 - 11, 10 ** 40 - 11)]:
                        self.assertIs(one(r, i, j, s, m), other(r, i, j, s, m))

    def test_the_sides_exchanged(self):
        # Promise 10.
        for one, other in product(SMALL[::2] + SAME[0], SMALL[1::2] + SAME[0]):
            if lcm(one.period, other.period) <= 4:
                self.assertIs(alike(one.swapped(), other.swapped()), alike(one, other))

    def test_parted_tells_a_meeting_of_the_dance(self):
        for one, other in product(FORALL_RULES, repeat=2):
            found = parted_at(one, other) if lcm(one.period, other.period) <= 4 else None
            if found is not None:
                s, m, (r, i, j) = found
                self.assertTrue(0 <= i < s and 0 <= j < m and r >= 0)
                self.assertIsNot(one(r, i, j, s, m), other(r, i, j, s, m))


class AlikeSeen(unittest.TestCase):
    def expected(self, one, other, colours):
        """The least place at which they do not show the same, found among all."""
        joined = one ^ other ^ suns("", "1" * len(colours.suns)) ^ moons("", "1" * len(colours.moons))
        for s, m, meeting in boxes(joined, 0):
            if seen(one, colours, s, m, meeting) != seen(other, colours, s, m, meeting):
                return (s, m, meeting)
        return None

    def test_against_all_meetings_of_small_dances(self):
        answers = set()
        for colours in COLOURS:
            lengths = lcm(len(colours.suns), len(colours.moons))
            for one, other in product(SMALL[::2], SMALL[1::3] + SAME[0][:2]):
                if lcm(one.period, other.period, lengths) <= 4:
                    expected = self.expected(one, other, colours)
                    answers.add((expected, expected == parted_at(one, other)))
                    self.assertEqual(parted_seen(one, other, colours), expected)
                    self.assertIs(alike_seen(one, other, colours), expected is None)
        self.assertGreater(len(answers), 12)
        self.assertEqual({alike for _, alike in answers}, {True, False})

    def test_all_of_one_colour_part_nothing(self):
        for one, other in product(SMALL, repeat=2):
            if lcm(one.period, other.period) <= 4:
                self.assertIsNone(parted_seen(one, other, Colours("a", "a")))
                self.assertIs(alike_seen(one, other, Colours("aaaa", "aa")), True)
                # Where no two ribbons have one colour, what is told is seen.
                self.assertEqual(parted_seen(one, other, Colours("ab", "cd")), parted_at(one, other))

    def test_colours_alike_and_unlike_on_both_sides(self):
        ab = Colours("ab", "ab")
        both_even, unlike = suns("", "10") & moons("", "10"), suns("", "10") ^ moons("", "10")
        self.assertIsNone(parted_seen(NO, both_even, ab))
        self.assertIs(alike_seen(NO, both_even, ab), True)
        self.assertEqual(parted_seen(NO, unlike, ab), (1, 2, (0, 0, 1)))
        self.assertIs(alike_seen(NO, unlike, ab), False)
        self.assertEqual(parted_seen(NO, YES, Colours("aaab", "a")), (4, 1, (0, 3, 0)))
        self.assertEqual(parted_seen(NO, YES, Colours("a", "aab")), (1, 3, (0, 0, 2)))
        self.assertEqual(parted_seen(NO, YES, Colours("b", "aab")), (1, 1, (0, 0, 0)))
        self.assertIsNone(parted_seen(RULE, RULE ^ NO, Colours("a", "b")))

    def test_the_sides_exchanged(self):
        # Promise 10.
        for colours in COLOURS:
            turned = Colours(colours.moons, colours.suns)
            for one, other in product(SMALL[::3], SMALL[1::4]):
                if lcm(one.period, other.period, len(colours.suns), len(colours.moons)) <= 4:
                    self.assertIs(alike_seen(one.swapped(), other.swapped(), turned),
                                  alike_seen(one, other, colours))


class AsWords(unittest.TestCase):
    def words(self, rule):
        """All words in their least form with a lead and a period as those of the rule at most."""
        for lead, period in product(range(rule.lead + 1), range(1, rule.period + 1)):
            for bits in product("01", repeat=lead + period):
                word = Word("".join(bits[:lead]), "".join(bits[lead:]))
                if word.plain() == word:
                    yield word

    def test_among_all_words(self):
        found = set()
        for rule in SMALL + [one for row in SAME for one in row] + FORALL_RULES[-6:]:
            expected = {}
            for reader, word in product(READERS, self.words(rule)):
                if first_told(rule ^ Rule.by(reader, word)) is None:
                    expected[reader] = word
            self.assertEqual(as_words(rule), expected)
            self.assertEqual(list(as_words(rule)), list(expected))
            found.update(expected)
        self.assertEqual(found, set(READERS))

    def test_each_reader(self):
        words = [Word("", "10"), Word("1", "0"), Word("01", "1000"), Word("", "1110"), Word("01", "0")]
        for reader, word in product(READERS, words):
            self.assertEqual(as_words(Rule.by(reader, word)), {reader: word})
            self.assertEqual(as_words(~Rule.by(reader, ~word) & YES), {reader: word})

    def test_words_in_their_least_form(self):
        self.assertEqual(as_words(suns("1", "0101")), {"suns": Word("", "10")})
        self.assertEqual(as_words(suns("10", "10") ^ suns("", "0110")), {"suns": Word("", "1100")})
        self.assertEqual(as_words(turns("01", "1010") | turns("", "0101")), {"turns": Word("0", "1")})

    def test_rules_that_no_word_tells(self):
        for rule in [RULE, suns("", "10") & moons("", "10"), turns("", "10") | Rule.by("others", Word("", "10")),
                     turns("", "10") ^ Rule.by("rounds", Word("0", "1"))]:
            self.assertEqual(as_words(rule), {})

    def test_rules_that_tell_the_same_everywhere(self):
        for rule, bit in [(YES, "1"), (NO, "0"), (turns("", "10") | ~turns("1", "01"), "1"), (RULE ^ RULE, "0")]:
            found = as_words(rule)
            self.assertEqual(list(found), READERS)
            self.assertEqual(found, {reader: Word("", bit) for reader in READERS})

    def test_new_dicts(self):
        found = as_words(suns("", "10"))
        found.clear()
        self.assertEqual(as_words(suns("", "10")), {"suns": Word("", "10")})

    def test_the_sides_exchanged(self):
        # Promise 10.
        other = {"suns": "moons", "moons": "suns", "turns": "others", "others": "turns", "rounds": "rounds"}
        for rule in FORALL_RULES:
            turned = {other[reader]: ~word for reader, word in as_words(rule).items()}
            self.assertEqual(as_words(rule.swapped()), turned)


class ToldAlways(unittest.TestCase):
    def test_among_all(self):
        same = [one ^ other for one, other in product(SAME[0][:3], repeat=2)]
        for rule in SMALL + same + SAME[1] + [~one for one in SAME[1]]:
            told = {rule(*meeting, s, m) for s, m, meeting in boxes(rule)}
            self.assertIs(told_always(rule), told.pop() if len(told) == 1 else None)

    def test_known_by_hand(self):
        self.assertIs(told_always(YES), True)
        self.assertIs(told_always(NO), False)
        self.assertIs(told_always(RULE | ~RULE), True)
        self.assertIs(told_always(RULE & ~RULE), False)
        self.assertIsNone(told_always(RULE))
        self.assertIsNone(told_always(suns("11", "1110")))
        self.assertIsNone(told_always(Rule.by("rounds", Word("00", "0001"))))
        self.assertIsNone(told_always(suns("", "0001") & moons("", "0001")))

    def test_asking_changes_nothing(self):
        rule, other = RULE, turns("", "10")
        answers = [[alike(rule, other), parted_at(rule, other), as_words(rule), told_always(rule), rule.parts(),
                    parted_seen(rule, other, COLOURS[1]), alike_seen(rule, other, COLOURS[0])] for _ in range(2)]
        self.assertEqual(answers[0], answers[1])


if __name__ == "__main__":
    unittest.main()
