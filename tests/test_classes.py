import unittest
from itertools import product

from poleribbons.classes import class_of, classes, fellow, members, rule_at, table
from poleribbons.dances import Dance
from poleribbons.ribbons import lies_above
from poleribbons.rules import Rule
from poleribbons.words import Word
from samples import LONG, RULES, WIDE_RULES

TABLE_SIZES = [(1, 1, 1), (1, 4, 2), (3, 2, 1), (4, 5, 3), (7, 6, 4), (8, 8, 12), (2, 8, 12), (8, 3, 2)]


def counted_classes(rule, many):
    """The classes of the numbers below many, counted number by number."""
    found = []
    for x in range(many):
        last = rule.lead + rule.period - 1
        found.append(0 if x == 0 else rule.lead if found[-1] == last else found[-1] + 1)
    return found


class Classes(unittest.TestCase):
    def test_class_of_number_by_number(self):
        for rule in WIDE_RULES:
            self.assertEqual([class_of(rule, x) for x in range(60)], counted_classes(rule, 60))

    def test_there_are_lead_and_period_classes(self):
        for rule in WIDE_RULES:
            self.assertEqual(len({class_of(rule, x) for x in range(60)}), rule.lead + rule.period)

    def test_class_of_forty_digits(self):
        for rule in WIDE_RULES:
            for number in (LONG, LONG + 1, 10 ** 39, 10 ** 40 - 1):
                least = class_of(rule, number)
                self.assertIn(least, range(rule.lead, rule.lead + rule.period))
                self.assertEqual((number - least) % rule.period, 0)
        rule = Rule.by("suns", Word("110", "1000"))
        self.assertEqual([class_of(rule, 3 + 4 * LONG + k) for k in range(5)], [3, 4, 5, 6, 3])

    def test_classes_and_members_number_by_number(self):
        for rule in WIDE_RULES:
            for many in range(1, 45):
                found = counted_classes(rule, many)
                self.assertEqual(classes(rule, many), sorted(set(found)))
                self.assertEqual(members(rule, many), [found.count(one) for one in sorted(set(found))])

    def test_classes_and_members_of_forty_digits(self):
        for rule in WIDE_RULES:
            lead, period = rule.lead, rule.period
            for many in (LONG, 10 ** 39, 10 ** 40 - 1, 10 ** 40 - 2):
                self.assertEqual(classes(rule, many), list(range(lead + period)))
                found = members(rule, many)
                self.assertEqual((len(found), sum(found)), (lead + period, many))
                self.assertEqual(found[:lead], [1] * lead)
                # A number later the class of this number has one more.
                more = list(found)
                more[class_of(rule, many)] += 1
                self.assertEqual(members(rule, many + 1), more)
                self.assertEqual(members(rule, many + period)[lead:], [one + 1 for one in found[lead:]])

    def test_what_is_returned_is_new(self):
        rule = RULES[13]
        for ask in (lambda: classes(rule, 9), lambda: members(rule, 9), lambda: table(rule, 3, 3, 2)):
            first = ask()
            kept = first.copy()
            first.clear()
            self.assertEqual(ask(), kept)
        self.assertEqual(rule.parts(), ("unlike", ("turns", "", "10"), ("suns", "", "10")))


class Fellows(unittest.TestCase):
    def test_below_at_and_above_the_bounds(self):
        for rule in WIDE_RULES:
            lead, period = rule.lead, rule.period
            bound = lead + 2 * period
            for number in range(1, bound + 4 * period):
                expected = number
                while expected >= bound:
                    expected -= period
                self.assertEqual(fellow(rule, number, 1, 1), (expected, 1, 1))
                self.assertEqual(fellow(rule, 1, number, 1), (1, expected, 1))
                self.assertEqual(fellow(rule, 1, 1, number), (1, 1, min(number, lead + period)))

    def test_each_of_the_three_by_itself(self):
        rule = Rule.by("turns", Word("1", "01"))
        self.assertEqual(fellow(rule, 4, 5, 3), (4, 3, 3))
        self.assertEqual(fellow(rule, 5, 4, 4), (3, 4, 3))
        self.assertEqual(fellow(rule, 6, 7, 2), (4, 3, 2))
        self.assertEqual(fellow(Rule.always(True), 1, 2, 3), (1, 1, 1))

    def test_forty_digits(self):
        for rule in WIDE_RULES:
            lead, period = rule.lead, rule.period
            numbers = (LONG, LONG + 5, 10 ** 40 - 1)
            found = fellow(rule, *numbers)
            for number, one in zip(numbers[:2], found):
                self.assertIn(one, range(lead + period, lead + 2 * period))
                self.assertEqual(class_of(rule, one), class_of(rule, number))
            self.assertEqual(found[2], lead + period)
            self.assertEqual(fellow(rule, *found), found)


class Tables(unittest.TestCase):
    def expected(self, rule, suns, moons, rounds):
        """The table gone through meeting by meeting, the truths of all ribbons of two classes put together."""
        found = {}
        for r, i, j in product(range(rounds), range(suns), range(moons)):
            pair = (class_of(rule, i), class_of(rule, j))
            above, below = found.get(pair, (False, False))
            truth = rule(r, i, j, suns, moons)
            found[pair] = (above or truth, below or not truth)
        return dict(sorted(found.items()))

    def test_meeting_by_meeting(self):
        for rule in WIDE_RULES:
            for numbers in TABLE_SIZES:
                found = table(rule, *numbers)
                self.assertEqual(found, self.expected(rule, *numbers))
                self.assertEqual(list(found), sorted(found))
                for truths in found.values():
                    self.assertIs(type(truths), tuple)
                    self.assertEqual([type(truth) for truth in truths], [bool, bool])

    def test_each_two_ribbons_by_their_classes(self):
        # Promise 5: two ribbons of one class lie above the same ones, and below the same ones.
        for rule in WIDE_RULES:
            for numbers in [(8, 7, 1), (6, 8, 3)]:
                found = table(rule, *numbers)
                dance = Dance(*numbers, rule)
                for i, j in product(range(dance.suns), range(dance.moons)):
                    above = lies_above(dance, ("sun", i), ("moon", j))
                    below = lies_above(dance, ("moon", j), ("sun", i))
                    self.assertEqual(found[class_of(rule, i), class_of(rule, j)], (above, below))

    def test_rounds_beyond_lead_and_period_change_nothing(self):
        for rule in WIDE_RULES[::3]:
            most = rule.lead + rule.period
            self.assertEqual(table(rule, 5, 4, most), table(rule, 5, 4, most + 7))
            self.assertEqual(table(rule, 5, 4, most), table(rule, 5, 4, 10 ** 39))

    def test_forty_digits_as_their_fellows(self):
        for rule in WIDE_RULES:
            for numbers in [(LONG, LONG + 1, LONG + 2), (LONG, 2, 3), (3, LONG + 3, 1), (10 ** 40 - 1, 10 ** 39, 2)]:
                self.assertEqual(table(rule, *numbers), self.expected(rule, *fellow(rule, *numbers)))

    def test_the_sides_exchanged(self):
        # Promise 10.
        for rule in WIDE_RULES:
            for suns, moons, rounds in TABLE_SIZES[:5] + [(LONG, LONG + 1, 2)]:
                turned = {(l, k): truths[::-1] for (k, l), truths in table(rule, suns, moons, rounds).items()}
                self.assertEqual(table(rule.swapped(), moons, suns, rounds), turned)


class RuleAt(unittest.TestCase):
    def test_meeting_by_meeting(self):
        for rule in WIDE_RULES:
            for suns, moons in [(1, 1), (2, 3), (5, 4), (8, 7)]:
                for r, i, j in product(range(9), range(suns), range(moons)):
                    self.assertIs(rule_at(rule, r, i, j, suns, moons), rule(r, i, j, suns, moons))

    def test_great_meetings(self):
        for rule in WIDE_RULES:
            for suns, moons in [(25, 31), (48, 29), (36, 36)]:
                for r, i, j in product((0, 1, 6, 7, 23, 40), (0, 3, 6, 19, 24), (0, 2, 6, 17, 28)):
                    self.assertIs(rule_at(rule, r, i, j, suns, moons), rule(r, i, j, suns, moons))

    def test_forty_digits(self):
        numbers = [0, 1, 6, LONG, LONG + 1, LONG + 5, 10 ** 40 - 12]
        for rule in WIDE_RULES:
            for r, i, j in product(numbers, numbers[::2], numbers[1::2]):
                for suns, moons in [(10 ** 40 - 1, 10 ** 40 - 2), (10 ** 40 - 11, 10 ** 40 - 6)]:
                    self.assertIs(rule_at(rule, r, i, j, suns, moons), rule(r, i, j, suns, moons))

    def test_only_classes_count(self):
        # Promise 5.
        for rule in WIDE_RULES:
            period = rule.period
            for r, i, j, suns, moons in [(7, 8, 9, 20, 21), (6, 6, 7, 30, 30), (13, 19, 6, 20, 20)]:
                for steps in product((0, 1, 3), repeat=5):
                    numbers = [x + step * period for x, step in zip((r, i, j, suns, moons), steps)]
                    self.assertIs(rule(*numbers), rule_at(rule, r, i, j, suns, moons))


if __name__ == "__main__":
    unittest.main()
