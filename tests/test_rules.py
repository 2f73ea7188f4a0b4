import unittest
from itertools import product

from poleribbons.errors import NoRule, Wrong
from poleribbons.rules import Rule
from poleribbons.words import Word
from samples import LONG, ODD_VALUES, RULES, nested

READERS = ["turns", "others", "rounds", "suns", "moons"]
MEETINGS = [(r, i, j, suns, moons) for suns, moons in [(1, 1), (1, 3), (2, 2), (3, 2), (4, 5)]
            for r in range(3) for i in range(suns) for j in range(moons)]
WORD = Word("0110", "10110")


def told(rule):
    return [rule(*meeting) for meeting in MEETINGS]


def number(reader, r, i, j, suns, moons):
    return {"turns": r * moons + j, "others": r * suns + i, "rounds": r, "suns": i, "moons": j}[reader]


class Told(unittest.TestCase):
    def test_each_reader(self):
        for reader in READERS:
            rule = Rule.by(reader, WORD)
            for meeting in MEETINGS:
                self.assertIs(rule(*meeting), WORD(number(reader, *meeting)))

    def test_readers_are_told_apart(self):
        place = Word("0" * 7 + "1", "0")
        meetings = {"turns": (2, 0, 1, 5, 3), "others": (1, 2, 0, 5, 4), "rounds": (7, 0, 0, 2, 2),
                    "suns": (1, 7, 1, 8, 8), "moons": (1, 1, 7, 8, 8)}
        for reader, other in product(READERS, repeat=2):
            self.assertIs(Rule.by(reader, place)(*meetings[other]), reader == other)

    def test_always(self):
        for truth in (True, False):
            self.assertEqual(told(Rule.always(truth)), [truth] * len(MEETINGS))

    def test_numbers_of_any_length(self):
        r, i, j, suns, moons = LONG, LONG + 5, LONG + 3, LONG + 9, LONG + 8
        for reader, word in product(READERS, [WORD, Word("", "1001"), Word("1" * 24, "0110" * 6)]):
            x = number(reader, r, i, j, suns, moons)
            expected = word.again[(x - word.lead) % word.period] == "1"
            self.assertIs(Rule.by(reader, word)(r, i, j, suns, moons), expected)

    def test_rules_put_together(self):
        for one, other in product(RULES, repeat=2):
            pairs = list(zip(told(one), told(other)))
            self.assertEqual(told(one & other), [a and b for a, b in pairs])
            self.assertEqual(told(one | other), [a or b for a, b in pairs])
            self.assertEqual(told(one ^ other), [a != b for a, b in pairs])
            self.assertEqual(told(~one), [not a for a, _ in pairs])

    def test_truths_are_truths(self):
        for rule in RULES:
            for truth in told(rule) + told(~rule) + told(rule & RULES[3]) + told(rule | RULES[3]):
                self.assertIs(type(truth), bool)

    def test_asking_changes_nothing(self):
        for rule in RULES:
            parts = rule.parts()
            answers = [[told(rule), rule.size(), rule.words(), rule.lead, rule.period, rule.swapped().parts(),
                        (~rule).parts(), (rule & rule).parts()] for _ in range(2)]
            self.assertEqual(answers[0], answers[1])
            self.assertEqual(rule.parts(), parts)

    def test_only_the_classes_of_numbers_count(self):
        # Promise 5: a number from the lead on may give way to one that is so many periods greater.
        for rule in RULES:
            for meeting in MEETINGS:
                others = [x + 3 * rule.period if x >= rule.lead else x for x in meeting]
                self.assertIs(rule(*others), rule(*meeting))


class Made(unittest.TestCase):
    def wrong(self, place, make, *arguments):
        with self.assertRaises(Wrong) as context:
            make(*arguments)
        self.assertEqual(context.exception.place, place)

    def test_by_tells_the_first_wrong_place(self):
        for thing in ODD_VALUES:
            if thing != "turns":
                self.wrong(0, Rule.by, thing, WORD)
                self.wrong(0, Rule.by, thing, thing)
            if not isinstance(thing, Word):
                self.wrong(1, Rule.by, "turns", thing)
        for reader in ["sun", "moon", "always", "not", "Turns", "", ["turns"], ("turns",)]:
            self.wrong(0, Rule.by, reader, WORD)
            self.wrong(0, Rule.by, reader, "10")
        self.wrong(1, Rule.by, "suns", "10")
        self.wrong(1, Rule.by, "suns", ("", "10"))
        self.wrong(1, Rule.by, "suns", Rule.by("suns", WORD))

    def test_always_refuses_all_but_truths(self):
        for thing in ODD_VALUES:
            if thing is not True and thing is not False:
                self.wrong(0, Rule.always, thing)

    def test_equal_if_put_together_alike(self):
        a, b = Rule.by("suns", Word("", "10")), Rule.by("moons", Word("", "10"))
        alike = [(Rule.by("suns", Word("", "10")), a), (~a, ~a), (a & b, a & b), (a | b, a | b), (a ^ b, a ^ b),
                 (Rule.always(True), Rule.always(True)), (~(a & ~b) ^ b, ~(a & ~b) ^ b)]
        for one, other in alike:
            self.assertIs(one == other, True)
            self.assertIs(one != other, False)
        rules = [a, b, Rule.by("suns", Word("", "1010")), Rule.by("suns", Word("1", "01")),
                 Rule.by("suns", Word("", "01")), ~a, ~~a, a & b, b & a, a | b, a ^ b, b ^ a, a & a,
                 Rule.always(True), Rule.always(False),
                 ~Rule.always(False), (a & b) & b, a & (b & b), Rule.by("turns", Word("", "10")),
                 Rule.by("others", Word("", "10")), Rule.by("rounds", Word("", "10"))]
        for m, one in enumerate(rules):
            for n, other in enumerate(rules):
                self.assertIs(one == other, m == n)
                self.assertIs(one != other, m != n)

    def test_equal_to_nothing_else(self):
        for rule in RULES:
            for thing in [None, True, False, 0, rule.parts(), list(rule.parts()), WORD, "turns", {}, object()]:
                self.assertIs(rule == thing, False)
                self.assertIs(thing == rule, False)
                self.assertIs(rule != thing, True)

    def test_lead_and_period(self):
        a, b, c = Rule.by("suns", Word("01", "1010")), Rule.by("turns", Word("1", "100100")), Rule.always(True)
        found = [(rule.lead, rule.period) for rule in [a, b, c, ~a, a & b, b | a, a ^ c, c ^ ~c, ~(a ^ c) | (b & a)]]
        self.assertEqual(found, [(2, 4), (1, 6), (0, 1), (2, 4), (2, 12), (2, 12), (2, 4), (0, 1), (2, 12)])

    def test_periods_that_have_no_common_divisor(self):
        rule = Rule.by("suns", Word("0" * 24, "1" * 23)) & Rule.by("moons", Word("", "1" * 24))
        self.assertEqual([rule.lead, rule.period], [24, 552])

    def test_rules_of_forty_parts_ten_deep(self):
        rule = nested_rule(9)
        for _ in range(29):
            rule = rule ^ Rule.always(False) if rule.size() < 39 else rule
        self.assertLessEqual(rule.size(), 40)
        self.assertEqual(Rule.of(rule.parts()), rule)
        self.assertEqual(len(told(rule)), len(MEETINGS))

    def test_nothing_is_refused_for_its_depth(self):
        rule = nested_rule(38)
        self.assertEqual(rule.size(), 39)
        self.assertEqual(Rule.of(rule.parts()), rule)
        self.assertEqual(told(rule), told(Rule.by("turns", WORD)))


def nested_rule(depth):
    rule = Rule.by("turns", WORD)
    for _ in range(depth):
        rule = ~rule
    return rule


class Parts(unittest.TestCase):
    def test_as_they_are_written(self):
        a, b = Rule.by("rounds", Word("0", "10")), Rule.by("others", Word("", "1"))
        first, second = ("rounds", "0", "10"), ("others", "", "1")
        self.assertEqual([a.parts(), b.parts(), Rule.always(True).parts(), Rule.always(False).parts()],
                         [first, second, ("always", True), ("always", False)])
        self.assertEqual([(~a).parts(), (a & b).parts(), (a | b).parts(), (a ^ b).parts()],
                         [("not", first), ("and", first, second), ("or", first, second), ("unlike", first, second)])
        self.assertEqual((~(a & ~b) | a).parts(), ("or", ("not", ("and", first, ("not", second))), first))
        self.assertIs(Rule.always(True).parts()[1], True)

    def test_there_and_back(self):
        for one, other in product(RULES, RULES[::3]):
            for rule in (one, ~one, one & other, one | ~other, ~(one ^ other)):
                back = Rule.of(rule.parts())
                self.assertIs(back == rule, True)
                self.assertEqual(back.parts(), rule.parts())
                self.assertEqual((told(back), back.lead, back.period), (told(rule), rule.lead, rule.period))

    def refused(self, thing):
        with self.assertRaises(NoRule) as context:
            Rule.of(thing)
        self.assertIs(context.exception.thing, thing)

    def test_other_values_are_no_rules(self):
        for thing in ODD_VALUES:
            self.refused(thing)
            self.refused(("not", thing))
            self.refused(("and", ("always", True), thing))
            self.refused(("unlike", thing, ("always", True)))

    def test_words_are_no_rules_with_a_part_put_otherwise(self):
        for thing in ODD_VALUES:
            self.refused((thing, "", "1") if thing != "turns" else (thing, "", ""))
            bits = type(thing) is str and set(thing) <= {"0", "1"}
            if not bits:
                self.refused(("turns", thing, "1"))
            if not bits or thing == "":
                self.refused(("turns", "", thing))
        for thing in [("turns", "", ""), ("turns", "", "2"), ("turns", "2", "1"), ("turns", "1"), ("turns",), (),
                      ("turns", "", "1", ""), ("suns", ("", "1")), ("suns", Word("", "1")), ("sun", "", "1"),
                      ("word", "", "1"), ["turns", "", "1"], ("turns", ["1"], "1"), ("turns", "", ["1"])]:
            self.refused(thing)

    def test_truths_are_no_rules_with_a_part_put_otherwise(self):
        for thing in ODD_VALUES:
            if thing is not True and thing is not False:
                self.refused(("always", thing))
        for thing in [("always",), ("always", True, True), ["always", True], ("Always", True), (True, "always"),
                      (True,), ("always", "True"), ("always", 1), ("always", 0), ("always", ("always", True))]:
            self.refused(thing)

    def test_rules_put_together_are_none_with_a_part_put_otherwise(self):
        a, b = ("suns", "", "10"), ("always", True)
        for thing in [("not",), ("not", a, b), ("not", list(a)), ["not", a], ("and", a), ("and", a, b, a), ("or",),
                      ("unlike",), ("and", a, list(b)), ("or", list(a), b), ["unlike", a, b], ("xor", a, b),
                      ("not", True), ("and", True, False), (a, "and", b), ("And", a, b), ("and", (a, b)),
                      ("not", Rule.always(True)), ("and", Rule.always(True), a), (a, b), (a,), ("nor", a),
                      ("and", a, ("not", ("or", b, ["always", True]))), ("not", ("not", ("not", ("always", 1))))]:
            self.refused(thing)

    def test_long_and_deep_values(self):
        self.refused(nested(39, lambda value: ("not", value)))
        self.refused(("and",) + (("always", True),) * 3000)
        deep = ("always", True)
        for _ in range(38):
            deep = ("not", deep)
        self.assertEqual(Rule.of(deep).parts(), deep)
        wide = ("always", True)
        for _ in range(9):
            wide = ("or", wide, wide)
        self.assertEqual(Rule.of(wide).size(), 1023)

    def test_size(self):
        a, b = Rule.by("suns", WORD), Rule.always(True)
        found = [rule.size() for rule in [a, b, ~a, ~~b, a & b, a | b, a ^ b, ~(a & ~b) ^ (a | a)]]
        self.assertEqual(found, [1, 1, 2, 3, 3, 3, 3, 9])

    def test_words_in_their_order(self):
        first, second = Word("1", "10"), Word("", "100")
        a, b, c = Rule.by("suns", first), Rule.by("moons", second), Rule.always(True)
        self.assertEqual(a.words(), [("suns", first)])
        self.assertEqual(c.words(), [])
        self.assertEqual((~(b & (c ^ ~a)) | a).words(), [("moons", second), ("suns", first), ("suns", first)])
        self.assertEqual([type(pair) for pair in (a ^ b).words()], [tuple, tuple])

    def test_the_list_of_words_is_new(self):
        rule = RULES[-1]
        rule.words().clear()
        self.assertEqual(len(rule.words()), 3)

    def test_making_and_putting_together_change_nothing(self):
        word = Word("1", "10")
        rule = Rule.by("turns", word)
        joined = [~rule, rule & rule, rule | rule, rule ^ rule, rule.swapped()]
        self.assertEqual(len(joined), 5)
        self.assertEqual([rule.parts(), word.early, word.again], [("turns", "1", "10"), "1", "10"])


class Swapped(unittest.TestCase):
    def test_each_reader(self):
        pairs = [("turns", "others"), ("others", "turns"), ("rounds", "rounds"), ("suns", "moons"), ("moons", "suns")]
        for reader, other in pairs:
            self.assertEqual(Rule.by(reader, WORD).swapped(), ~Rule.by(other, WORD))

    def test_rules_put_together(self):
        a, b, c = Rule.by("turns", WORD), Rule.by("suns", Word("", "10")), Rule.always(True)
        x, y = Rule.by("others", WORD), Rule.by("moons", Word("", "10"))
        self.assertEqual([c.swapped(), (~a).swapped(), (a & b).swapped(), (a | c).swapped(), (b ^ ~a).swapped()],
                         [~c, ~~x, ~(x & y), ~(x | c), ~(y ^ ~x)])

    def test_the_same_cloth_from_the_other_side(self):
        # Promise 10: the sides exchanged, and the truths turned about.
        for rule in RULES:
            swapped = rule.swapped()
            for r, i, j, suns, moons in MEETINGS:
                self.assertIs(swapped(r, j, i, moons, suns), not rule(r, i, j, suns, moons))
                self.assertIs(swapped.swapped()(r, i, j, suns, moons), rule(r, i, j, suns, moons))
            self.assertEqual([swapped.lead, swapped.period, swapped.size()], [rule.lead, rule.period, rule.size() + 1])


if __name__ == "__main__":
    unittest.main()
