import unittest
from itertools import product

from poleribbons.dances import Dance
from poleribbons.errors import NoMeeting, NoRibbon, Wrong
from poleribbons.pictures import Colours, comes_again, is_picture, levels_seen, many_shown, picture_of, seen_at
from poleribbons.ribbons import crossings
from poleribbons.rules import Rule
from poleribbons.words import Word
from cloths import BIG_DANCES, DANCES, NO_RIBBONS, SIZES
from samples import LONG, ODD_VALUES, RULES, WIDE_RULES, suns, turns

COLOURS = [Colours("ab", "c"), Colours("a", "a"), Colours("ab", "ba"), Colours("abc", "ac"), Colours("z", "az"),
           Colours("abcab", "cccb")]
RULE = RULES[13]


def are_colours(thing):
    return type(thing) is str and thing != "" and set(thing) <= set("abcdefghijklmnopqrstuvwxyz")


def expected_picture(dance, colours):
    """What is seen, meeting by meeting, read off the rule and the strings of colours."""
    rounds = []
    for r in range(dance.rounds):
        rows = []
        for i in range(dance.suns):
            row = ""
            for j in range(dance.moons):
                sun, moon = colours.suns[i % len(colours.suns)], colours.moons[j % len(colours.moons)]
                row += sun if dance.rule(r, i, j, dance.suns, dance.moons) else moon
            rows.append(row)
        rounds.append(rows)
    return rounds


class Made(unittest.TestCase):
    def wrong(self, place, *arguments):
        with self.assertRaises(Wrong) as context:
            Colours(*arguments)
        self.assertEqual(context.exception.place, place)

    def test_wrong_tells_the_first_place(self):
        others = ["A", "aB", "a b", "a1", "ab\n", " a", "{", "`", "~", "ab-", ["a"], ("a", "b"), {"a"}, {"a": "b"},
                  b"ab", COLOURS[0]]
        for thing in ODD_VALUES + others:
            if not are_colours(thing):
                self.wrong(0, thing, "a")
                self.wrong(0, thing, thing)
                self.wrong(0, thing, "")
                self.wrong(1, "ab", thing)
        self.wrong(0, "", "a")
        self.wrong(1, "a", "")
        self.wrong(0, "a" * 9999 + "A", "b")

    def test_properties(self):
        colours = Colours("abab", "za")
        self.assertEqual([colours.suns, colours.moons], ["abab", "za"])
        letters = "abcdefghijklmnopqrstuvwxyz"
        self.assertEqual([Colours(letters, "a").suns, Colours("a", letters).moons], [letters, letters])

    def test_shown(self):
        colours = Colours("abc", "xy")
        for number in list(range(9)) + [LONG, 10 ** 999]:
            self.assertEqual(colours.shown(("sun", number)), "abc"[number % 3])
            self.assertEqual(colours.shown(("moon", number)), "xy"[number % 2])

    def test_no_ribbon_tells_the_very_value(self):
        for thing in NO_RIBBONS:
            if type(thing) is tuple and len(thing) == 2 and thing[0] in ("sun", "moon") and type(thing[1]) is int:
                if thing[1] >= 0:
                    continue
            with self.assertRaises(NoRibbon) as context:
                COLOURS[0].shown(thing)
            self.assertIs(context.exception.ribbon, thing)

    def test_equal_by_what_is_given_to_each_ribbon(self):
        rows = ["a", "aa", "ab", "abab", "ababab", "aba", "abaaba", "ba", "abc", "aab", "aabaab", "aabaaba", "b"]
        for one, other in product(product(rows, rows[:6]), product(rows[::2], rows[:6])):
            pair = Colours(*one), Colours(*other)
            alike = all(pair[0].shown((side, n)) == pair[1].shown((side, n))
                        for side in ("sun", "moon") for n in range(42))
            self.assertIs(pair[0] == pair[1], alike)
            self.assertIs(pair[0] != pair[1], not alike)
        self.assertIs(Colours("ab", "c") == Colours("abab", "ccc"), True)
        self.assertIs(Colours("ab", "c") == Colours("aba", "c"), False)
        self.assertIs(Colours("ab", "c") == Colours("c", "ab"), False)

    def test_equal_to_nothing_else(self):
        colours = Colours("ab", "c")
        for thing in ODD_VALUES + [("ab", "c"), ["ab", "c"], "ab", Colours]:
            self.assertIs(colours == thing, False)
            self.assertIs(thing == colours, False)
            self.assertIs(colours != thing, True)


class Seen(unittest.TestCase):
    def test_seen_at_meeting_by_meeting(self):
        for dance, colours in product(DANCES, COLOURS):
            expected = expected_picture(dance, colours)
            for r, i, j in dance.meetings():
                self.assertEqual(seen_at(dance, colours, (r, i, j)), expected[r][i][j])

    def test_no_meeting_tells_the_very_value(self):
        dance = Dance(2, 3, 2, RULE)
        for thing in ODD_VALUES + [(2, 0, 0), (0, 2, 0), (0, 0, 3), (0, 0, -1), [0, 0, 0], (0, 0, False), (0, True, 0)]:
            with self.assertRaises(NoMeeting) as context:
                seen_at(dance, COLOURS[0], thing)
            self.assertIs(context.exception.meeting, thing)

    def test_picture_meeting_by_meeting(self):
        for dance, colours in product(DANCES + BIG_DANCES[::6], COLOURS):
            self.assertEqual(picture_of(dance, colours), expected_picture(dance, colours))
        dance = Dance(2, 3, 1, suns("", "10"))
        self.assertEqual(picture_of(dance, Colours("ab", "xyz")), [["aaa", "xyz"]])

    def test_levels_seen_meeting_by_meeting(self):
        for dance, colours in product(DANCES + BIG_DANCES[::6], COLOURS):
            picture = expected_picture(dance, colours)
            texts = {}
            for r, i, j in dance.meetings():
                level = r * max(dance.suns, dance.moons) + i + j
                texts[level] = texts.get(level, "") + picture[r][i][j]
            self.assertEqual(levels_seen(dance, colours), [texts[level] for level in sorted(texts)])
        self.assertEqual(levels_seen(Dance(2, 2, 2, Rule.always(True)), Colours("ab", "c")),
                         ["a", "ab", "ba", "ab", "b"])

    def test_the_sides_exchanged(self):
        # Promise 10.
        for dance, colours in product(DANCES, COLOURS):
            other, turned = dance.swapped(), Colours(colours.moons, colours.suns)
            exchanged = [["".join(column) for column in zip(*rows)] for rows in picture_of(dance, colours)]
            self.assertEqual(picture_of(other, turned), exchanged)
            self.assertEqual(comes_again(other.rule, turned, other.suns, other.moons),
                             comes_again(dance.rule, colours, dance.suns, dance.moons))

    def test_what_is_returned_is_new(self):
        dance = Dance(2, 2, 3, Rule.always(True))
        for ask in (lambda: picture_of(dance, COLOURS[0]), lambda: levels_seen(dance, COLOURS[0])):
            first = ask()
            kept = [list(item) if isinstance(item, list) else item for item in first]
            for item in first:
                if isinstance(item, list):
                    item.clear()
            first.clear()
            self.assertEqual(ask(), kept)
        self.assertEqual(len({id(rows) for rows in picture_of(dance, COLOURS[0])}), 3)


class Pictures(unittest.TestCase):
    def all_pictures(self, colours, s, m, r):
        """From each picture of all cloths of so many dancers and rounds to how many cloths have it."""
        found = {}
        for bits in product("01", repeat=s * m * r):
            seen = []
            for at, bit in enumerate(bits):
                i, j = at // m % s, at % m
                seen.append(colours.suns[i % len(colours.suns)] if bit == "1" else
                            colours.moons[j % len(colours.moons)])
            rows = ["".join(seen[at:at + m]) for at in range(0, len(seen), m)]
            key = tuple(tuple(rows[at:at + s]) for at in range(0, len(rows), s))
            found[key] = found.get(key, 0) + 1
        return found

    def test_against_all_cloths_of_small_numbers(self):
        for colours in [Colours("ab", "c"), Colours("a", "a"), Colours("ab", "ba"), Colours("ab", "a")]:
            for s, m, r in [(1, 1, 1), (1, 2, 1), (2, 1, 2), (2, 2, 1), (2, 3, 1), (1, 2, 2)]:
                found = self.all_pictures(colours, s, m, r)
                self.assertEqual(sum(found.values()), 2 ** (s * m * r))
                for signs in product("abc", repeat=s * m * r):
                    rows = ["".join(signs[at:at + m]) for at in range(0, len(signs), m)]
                    thing = [rows[at:at + s] for at in range(0, len(rows), s)]
                    many = found.get(tuple(tuple(rows) for rows in thing), 0)
                    self.assertEqual(many_shown(colours, thing), many)
                    self.assertIs(is_picture(colours, s, m, thing), many > 0)

    def test_of_pictures_of_dances(self):
        for dance, colours in product(DANCES + BIG_DANCES[::6], COLOURS):
            picture = picture_of(dance, colours)
            self.assertIs(is_picture(colours, dance.suns, dance.moons, picture), True)
            alike = [(i, j) for i, j in crossings(dance)
                     if colours.shown(("sun", i)) == colours.shown(("moon", j))]
            self.assertEqual(many_shown(colours, picture), 2 ** (len(alike) * dance.rounds))

    def test_many_shown_of_what_is_no_picture(self):
        colours = Colours("ab", "ac")
        self.assertEqual(many_shown(colours, [["aa", "aa"]]), 0)
        self.assertEqual(many_shown(colours, [["ac", "bb"]]), 2)
        self.assertEqual(many_shown(colours, [["ac", "bb"], ["ac", "bb"]]), 4)
        self.assertEqual(many_shown(colours, [["ac", "bb"], ["ac", "bz"]]), 0)
        for thing in [[["A"]], [[" "]], [["\n"]], [["?", "a"], ["a", "a"]]]:
            self.assertEqual(many_shown(Colours("a", "a"), thing), 0)

    def test_is_picture_with_values_of_any_kind(self):
        colours = Colours("ab", "ac")
        good = [["ac", "bb"], ["aa", "ac"]]
        self.assertIs(is_picture(colours, 2, 2, good), True)
        for thing in ODD_VALUES:
            self.assertIs(is_picture(colours, 2, 2, thing), False)
            self.assertIs(is_picture(colours, 2, 2, [thing]), False)
            self.assertIs(is_picture(colours, 2, 2, good + [thing]), False)
            self.assertIs(is_picture(colours, 2, 2, [[thing, "aa"]]), False)
            self.assertIs(is_picture(colours, 2, 2, [["aa", thing], ["aa", "aa"]]), False)
        for thing in [[], [[]], tuple(good), [tuple(good[0])], [["ac", "bb", "aa"]], [["ac"]], [["acb", "bb"]],
                      [["ac", "b"]], [["ac", ""]], [[["a", "c"], ["b", "b"]]], ["acbb"], [[("a", "c"), "bb"]],
                      good[0], [good], [["ac", "ba"], ["ab", "bb"]], [["ac", "bd"]], [["AC", "BB"]], {0: good[0]}]:
            self.assertIs(is_picture(colours, 2, 2, thing), False)
        for s, m in [(1, 2), (2, 1), (3, 2), (2, 3), (LONG, 2), (2, LONG)]:
            self.assertIs(is_picture(colours, s, m, good), False)

    def test_a_round_may_stand_twice(self):
        rows = ["ac", "bb"]
        self.assertIs(is_picture(Colours("ab", "ac"), 2, 2, [rows, rows]), True)
        self.assertEqual(many_shown(Colours("ab", "ac"), [rows, rows]), 4)

    def test_what_is_passed_stays_as_it_was(self):
        thing = [["ac", "bb"], ["aa", "ac"]]
        is_picture(Colours("ab", "ac"), 2, 2, thing)
        many_shown(Colours("ab", "ac"), thing)
        self.assertEqual(thing, [["ac", "bb"], ["aa", "ac"]])


class ComesAgain(unittest.TestCase):
    def expected(self, rule, colours, s, m):
        """The least round and period, found among many rounds gone through."""
        rounds = picture_of(Dance(s, m, 2 * (rule.lead + rule.period), rule), colours)
        for early, period in product(range(rule.lead + 1), range(1, rule.period + 1)):
            if rounds[early:-period] == rounds[early + period:]:
                return (early, period)

    def test_against_many_rounds(self):
        for rule, colours in product(WIDE_RULES, COLOURS):
            for s, m, _ in SIZES[::2] + [(8, 8, 1), (5, 7, 1)]:
                self.assertEqual(comes_again(rule, colours, s, m), self.expected(rule, colours, s, m))

    def test_periods_up_to_sixty(self):
        rounds = [Rule.by("rounds", Word("", "1" + "0" * many)) for many in (2, 3, 4, 11, 19)]
        rules = [rounds[0] ^ rounds[1] ^ rounds[2], rounds[3] & Rule.by("turns", Word("", "10110")) | rounds[2],
                 rounds[4] ^ Rule.by("others", Word("01", "110")), turns("0" * 24, "1" * 23 + "0"),
                 Rule.by("rounds", Word("0" * 23 + "1", "0" * 19 + "1")) | turns("", "110")]
        for rule in rules:
            for s, m in [(1, 1), (2, 1), (1, 3), (2, 5), (4, 4)]:
                for colours in COLOURS[:3]:
                    self.assertEqual(comes_again(rule, colours, s, m), self.expected(rule, colours, s, m))
        self.assertEqual(comes_again(rules[0], Colours("a", "b"), 1, 1), (0, 60))
        self.assertEqual(max(rule.period for rule in rules), 60)

    def test_known_by_hand(self):
        ab = Colours("a", "b")
        self.assertEqual(comes_again(RULE, Colours("ab", "c"), 1, 2), (0, 1))
        self.assertEqual(comes_again(Rule.by("rounds", Word("001", "0")), ab, 2, 2), (3, 1))
        self.assertEqual(comes_again(Rule.by("rounds", Word("001", "0")), Colours("a", "a"), 2, 2), (0, 1))
        self.assertEqual(comes_again(Rule.by("rounds", Word("010", "101010")), ab, 1, 1), (0, 2))
        self.assertEqual(comes_again(turns("0" * 24, "1"), ab, 1, 8), (3, 1))
        self.assertEqual(comes_again(turns("0" * 24, "1"), ab, 1, 7), (4, 1))
        self.assertEqual(comes_again(turns("", "100"), ab, 4, 2), (0, 3))
        self.assertEqual(comes_again(turns("", "100"), ab, 4, 3), (0, 1))
        self.assertEqual(comes_again(Rule.by("rounds", Word("1", "0")) & suns("01", "1"), ab, 1, 1), (0, 1))
        self.assertEqual(comes_again(Rule.by("rounds", Word("1", "0")) & suns("01", "1"), ab, 2, 1), (1, 1))


class Asking(unittest.TestCase):
    def test_twice_tells_the_same(self):
        colours, dance = Colours("abab", "c"), Dance(2, 3, 2, RULE)
        answers = [[colours.shown(("sun", 3)), picture_of(dance, colours), levels_seen(dance, colours),
                    comes_again(RULE, colours, 2, 3), colours == Colours("ab", "c"), colours.suns, colours.moons]
                   for _ in range(2)]
        self.assertEqual(answers[0], answers[1])


if __name__ == "__main__":
    unittest.main()
