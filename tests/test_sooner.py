import unittest
from itertools import product

from poleribbons.classes import fellow
from poleribbons.dances import Dance
from poleribbons.forall import hangs_at, layers_at
from poleribbons.layers import hangs, layers_of
from poleribbons.rules import Rule
from poleribbons.sooner import growth, sooner, whole_level
from poleribbons.words import Word
from cloths import BIG_DANCES, DANCES, all_ribbons
from samples import FORALL_RULES, LONG, RULES, moons, suns

RULE = RULES[13]
LONG_SIZES = [(LONG, LONG + 1), (LONG + 1, 1), (1, LONG), (2, LONG + 3), (10 ** 40 - 1, 10 ** 39)]


def is_whole(dance, meetings):
    """Whether these meetings by themselves make a cloth that hangs together."""
    steps = {ribbon: set() for ribbon in all_ribbons(dance)}
    for r, i, j in meetings:
        above = dance.rule(r, i, j, dance.suns, dance.moons)
        one, other = (("sun", i), ("moon", j)) if above else (("moon", j), ("sun", i))
        steps[one].add(other)
    for start in steps:
        seen, waiting = {start}, [start]
        while waiting:
            for other in steps[waiting.pop()] - seen:
                seen.add(other)
                waiting.append(other)
        if len(seen) < len(steps):
            return False
    return True


class Sooner(unittest.TestCase):
    def test_the_first_dance_that_hangs_together(self):
        answers = set()
        for rule in FORALL_RULES:
            for s, m in product((1, 2, 3, 6), (1, 2, 5)):
                whole = [r for r in range(1, 13) if hangs(Dance(s, m, r, rule))]
                found = sooner(rule, s, m)
                self.assertEqual(found, whole[0] if whole else None)
                answers.add(found)
        self.assertTrue({None, 1, 2, 3} <= answers)

    def test_numbers_of_forty_digits(self):
        answers = set()
        for rule in FORALL_RULES:
            for s, m in LONG_SIZES:
                found = sooner(rule, s, m)
                near_s, near_m, _ = fellow(rule, s, m, 1)
                self.assertEqual(found, sooner(rule, near_s, near_m))
                if found is None:
                    self.assertIs(hangs_at(rule, s, m, LONG), False)
                else:
                    self.assertIs(hangs_at(rule, s, m, found), True)
                    self.assertIs(found > 1 and hangs_at(rule, s, m, found - 1), False)
                answers.add(found)
        self.assertTrue({None, 1, 2} <= answers)

    def test_known_by_hand(self):
        late = Rule.by("rounds", Word("00", "0001"))
        self.assertEqual([sooner(late, 1, 1), sooner(late, LONG, LONG)], [6, 6])
        self.assertIsNone(sooner(Rule.always(True), LONG, 1))
        self.assertIsNone(sooner(Rule.always(False), 8, 8))
        self.assertEqual([sooner(RULE, 2, 2), sooner(RULE, 1, 1), sooner(RULE, 1, 2)], [1, 2, None])


class Growth(unittest.TestCase):
    def test_layers_of_each_dance(self):
        for rule in FORALL_RULES:
            for s, m in product((1, 2, 5), (1, 3, 6)):
                expected = [len(layers_of(Dance(s, m, r, rule))) for r in range(1, rule.lead + rule.period + 1)]
                self.assertEqual(growth(rule, s, m), expected)

    def test_numbers_of_forty_digits(self):
        for rule in FORALL_RULES:
            for s, m in LONG_SIZES:
                found = growth(rule, s, m)
                self.assertEqual(len(found), rule.lead + rule.period)
                self.assertEqual(found, [layers_at(rule, s, m, r) for r in range(1, len(found) + 1)])
                # Promise 8: more rounds never make more layers; and it hangs together from sooner on.
                self.assertEqual(found, sorted(found, reverse=True))
                self.assertEqual(sooner(rule, s, m), found.index(1) + 1 if 1 in found else None)

    def test_known_by_hand(self):
        self.assertEqual(growth(Rule.always(True), LONG, LONG), [2 * LONG])
        self.assertEqual(growth(Rule.by("rounds", Word("00", "0001")), LONG, 1), [LONG + 1] * 5 + [1])
        self.assertEqual(growth(suns("01", "1"), LONG, LONG), [2 * LONG] * 3)
        self.assertEqual(growth(suns("", "10") ^ moons("", "10"), 2, LONG + 1), [1, 1])


class WholeLevel(unittest.TestCase):
    def test_level_by_level(self):
        answers = set()
        for dance in DANCES + BIG_DANCES[::4]:
            levels = dance.levels()
            expected = None
            for many in range(len(levels), 0, -1):
                if is_whole(dance, sum(levels[:many], [])):
                    expected = many - 1
            self.assertEqual(whole_level(dance), expected)
            self.assertIs(expected is None, not hangs(dance))
            answers.add(expected)
        self.assertTrue({None, 1} < answers)

    def test_known_by_hand(self):
        self.assertEqual(whole_level(Dance(1, 1, 12, Rule.by("rounds", Word("", "0" * 11 + "1")))), 11)
        self.assertIsNone(whole_level(Dance(1, 1, 11, Rule.by("rounds", Word("", "0" * 11 + "1")))))
        # Four ribbons in a ring need the last of four meetings.
        self.assertEqual(whole_level(Dance(2, 2, 1, RULE)), 2)
        self.assertIsNone(whole_level(Dance(8, 8, 12, Rule.always(False))))

    def test_the_sides_exchanged(self):
        # Promise 10.
        for dance in DANCES:
            self.assertEqual(whole_level(dance.swapped()), whole_level(dance))
        for rule in FORALL_RULES:
            for s, m in LONG_SIZES:
                self.assertEqual(sooner(rule.swapped(), m, s), sooner(rule, s, m))
                self.assertEqual(growth(rule.swapped(), m, s), growth(rule, s, m))

    def test_asking_twice_tells_the_same(self):
        first = growth(RULE, 1, 1)
        first.append(None)
        self.assertEqual(growth(RULE, 1, 1), [2, 1])


if __name__ == "__main__":
    unittest.main()
