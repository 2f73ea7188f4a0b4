import unittest
from functools import lru_cache
from itertools import combinations, product
from math import lcm

from poleribbons.classes import class_of, classes, fellow, members
from poleribbons.dances import Dance
from poleribbons.errors import Wrong
from poleribbons.forall import When, hangs_at, is_lot_at, layers_at, least_apart, least_whole, lot_at, whole_from
from poleribbons.layers import hangs, is_lot, layers_of, lots_of
from poleribbons.rings import ring_of
from poleribbons.rules import Rule
from poleribbons.words import Word
from cloths import all_ribbons
from samples import FORALL_RULES, LONG, ODD_VALUES, RULES, moons, suns, turns

SIZES = list(product((1, 2, 3, 5), (1, 2, 4), (1, 2, 3))) + [(6, 6, 1), (8, 7, 2), (7, 8, 6), (8, 8, 12)]
LONG_SIZES = [(LONG, LONG + 1, LONG + 2), (LONG + 1, LONG + 1, 1), (LONG + 2, 1, 2), (2, LONG, LONG), (LONG, 3, 1),
              (10 ** 40 - 1, 10 ** 39, 3)]
RULE = RULES[13]
# Its cloths hang together if, and only if, the number of moon dancers is even and there are two rounds or more.
EVEN = turns("", "10") ^ Rule.by("rounds", Word("", "10"))


@lru_cache(None)
def whole(number, s, m, r):
    """Whether the cloth of the rule of this number hangs together, by the dance itself."""
    return hangs(Dance(s, m, r, FORALL_RULES[number]))


def class_tuples(rule, s, m):
    """All tuples of a side and a class of so many dancers."""
    return [("moon", k) for k in classes(rule, m)] + [("sun", k) for k in classes(rule, s)]


def ribbons_of(dance, kinds):
    """All ribbons of these classes."""
    return [(side, n) for side, n in all_ribbons(dance) if (side, class_of(dance.rule, n)) in kinds]


def lots_by_classes(dance):
    """The lists of classes whose ribbons are a lot, found among all; those with fewer first, then the least."""
    kinds = class_tuples(dance.rule, dance.suns, dance.moons)
    lists = [list(some) for many in range(1, len(kinds) + 1) for some in combinations(kinds, many)]
    return [some for some in lists if is_lot(dance, ribbons_of(dance, some))]


class Hangs(unittest.TestCase):
    def test_as_small_dances_do(self):
        for rule in RULES + FORALL_RULES:
            for size in SIZES:
                self.assertIs(hangs_at(rule, *size), hangs(Dance(*size, rule)))
        self.assertEqual({hangs_at(RULE, *size) for size in SIZES}, {True, False})

    def test_numbers_of_forty_digits_as_their_fellows(self):
        # Promise 6.
        for rule in FORALL_RULES:
            for size in LONG_SIZES:
                self.assertIs(hangs_at(rule, *size), hangs(Dance(*fellow(rule, *size), rule)))

    def test_numbers_above_the_bounds_as_those_below(self):
        # Promise 6: gone through by the dance itself, as far as it can be.
        for rule in FORALL_RULES:
            lead, period = rule.lead, rule.period
            greatest = lead + 3 * period
            for size in [(greatest, greatest - 1, 1), (greatest + 1, 2, 2), (1, greatest, lead + period + 2),
                         (3, greatest + 2, 1), (greatest, greatest, lead + period + 1)]:
                self.assertIs(hangs(Dance(*size, rule)), hangs(Dance(*fellow(rule, *size), rule)))
                self.assertIs(hangs_at(rule, *size), hangs(Dance(*size, rule)))

    def test_rules_of_forty_digits_known_by_hand(self):
        for s, m in [(LONG, LONG + 1), (LONG + 1, LONG + 2), (10 ** 40 - 1, 10 ** 40 - 2)]:
            self.assertIs(hangs_at(EVEN, s, m, 1), False)
            self.assertIs(hangs_at(EVEN, s, m, LONG), m % 2 == 0)
            self.assertIs(hangs_at(Rule.always(True), s, m, LONG), False)
            self.assertIs(hangs_at(Rule.by("rounds", Word("", "10")), s, m, 1), False)
            self.assertIs(hangs_at(Rule.by("rounds", Word("", "10")), s, m, 2), True)

    def test_more_rounds(self):
        # Promise 8.
        for rule in FORALL_RULES:
            for s, m, r in SIZES + LONG_SIZES:
                if hangs_at(rule, s, m, r):
                    for more in (r + 1, r + 2, r + 7, r + LONG):
                        self.assertIs(hangs_at(rule, s, m, more), True)

    def test_just_where_there_is_a_ring_and_no_lot(self):
        # Promise 7.
        for rule in FORALL_RULES:
            for size in SIZES + LONG_SIZES:
                answer = hangs_at(rule, *size)
                self.assertIs(answer, lot_at(rule, *size) is None)
                self.assertIs(answer, layers_at(rule, *size) == 1)
                self.assertIs(answer, ring_of(Dance(*fellow(rule, *size), rule)) is not None)

    def test_the_sides_exchanged(self):
        # Promise 10.
        for rule in FORALL_RULES:
            other = rule.swapped()
            for s, m, r in SIZES + LONG_SIZES:
                self.assertIs(hangs_at(other, m, s, r), hangs_at(rule, s, m, r))
                self.assertEqual(layers_at(other, m, s, r), layers_at(rule, s, m, r))
                lots = [lot_at(rule, s, m, r), lot_at(other, m, s, r)]
                self.assertEqual(lots[0] is None, lots[1] is None)
                if lots[0] is not None:
                    self.assertEqual(len(lots[0]), len(lots[1]))
                    turned = [("moon" if side == "sun" else "sun", kind) for side, kind in lots[0]]
                    self.assertIs(is_lot_at(other, m, s, r, turned), True)


class Layers(unittest.TestCase):
    def test_as_small_dances_have(self):
        for rule in RULES + FORALL_RULES:
            for size in SIZES:
                self.assertEqual(layers_at(rule, *size), len(layers_of(Dance(*size, rule))))

    def test_numbers_of_forty_digits(self):
        for rule in FORALL_RULES:
            for size in LONG_SIZES:
                self.assertEqual(layers_at(rule, *size), self.counted(rule, size))

    def counted(self, rule, size):
        """The layers of the fellow's cloth; those of one ribbon stand for all ribbons of their class."""
        single, many = set(), 0
        for layer in layers_of(Dance(*fellow(rule, *size), rule)):
            if len(layer) > 1:
                many += 1
            else:
                single.add((layer[0][0], class_of(rule, layer[0][1])))
        counts = {"sun": members(rule, size[0]), "moon": members(rule, size[1])}
        return many + sum(counts[side][kind] for side, kind in single)

    def test_known_by_hand(self):
        self.assertEqual(layers_at(Rule.always(True), LONG, LONG + 1, 1), 2 * LONG + 1)
        self.assertEqual(layers_at(Rule.by("rounds", Word("", "01")), LONG, LONG + 1, 2), 1)
        # The first sun dancer's ribbon lies above all, and all others hang together.
        rule = Rule.by("rounds", Word("", "01")) | suns("1", "0")
        self.assertEqual(layers_at(rule, LONG, LONG, 9), 2)
        self.assertEqual(layers_at(rule, 1, LONG, 9), LONG + 1)


class Lots(unittest.TestCase):
    def small(self):
        for rule in FORALL_RULES:
            for size in [(1, 1, 1), (2, 2, 1), (1, 3, 2), (3, 2, 1), (2, 4, 2), (4, 3, 1), (5, 5, 1), (3, 3, 3)]:
                if rule.period < 4 or sum(size[:2]) < 8:
                    yield Dance(*size, rule)

    def test_the_least_of_the_shortest_lists(self):
        for dance in self.small():
            size = (dance.suns, dance.moons, dance.rounds)
            lots = lots_by_classes(dance)
            self.assertEqual(lot_at(dance.rule, *size), lots[0] if lots else None)
            if lots:
                self.assertIn(ribbons_of(dance, lots[0]), lots_of(dance))

    def test_lots_of_forty_digits_as_those_of_the_fellows(self):
        for rule in FORALL_RULES:
            for size in LONG_SIZES:
                found = lot_at(rule, *size)
                self.assertEqual(found, lot_at(rule, *fellow(rule, *size)))
                if found is not None:
                    self.assertEqual(found, sorted(found))
                    self.assertIs(is_lot_at(rule, *size, found), True)
                    dance = Dance(*fellow(rule, *size), rule)
                    self.assertIs(is_lot(dance, ribbons_of(dance, found)), True)

    def test_known_by_hand(self):
        self.assertEqual(lot_at(RULE, 1, 2, 1), [("moon", 0)])
        self.assertEqual(lot_at(Rule.always(True), LONG, LONG, LONG), [("sun", 0)])
        self.assertEqual(lot_at(Rule.always(False), LONG, LONG, LONG), [("moon", 0)])
        self.assertEqual(lot_at(suns("00", "10"), LONG, LONG, 1), [("sun", 2)])
        # All ribbons but that of the first moon dancer hang together, and lie above this one.
        rule = Rule.by("rounds", Word("", "01")) | moons("1", "0")
        self.assertEqual(lot_at(rule, LONG, LONG, 2), [("moon", 1), ("moon", 2), ("sun", 0), ("sun", 1), ("sun", 2)])
        self.assertEqual(lot_at(rule, 2, 2, 2), [("moon", 1), ("sun", 0), ("sun", 1)])

    def test_is_lot_at_of_all_lists_of_classes(self):
        for dance in self.small():
            rule, size = dance.rule, (dance.suns, dance.moons, dance.rounds)
            lots = lots_by_classes(dance)
            kinds = class_tuples(rule, *size[:2])
            for many in range(len(kinds) + 1):
                for some in combinations(kinds, many):
                    self.assertIs(is_lot_at(rule, *size, list(some)), list(some) in lots)
                    self.assertIs(is_lot_at(rule, *size, list(some)[::-1]), list(some) in lots)

    def test_is_lot_at_of_forty_digits(self):
        for rule in FORALL_RULES:
            for size in LONG_SIZES:
                less = fellow(rule, *size)
                for kind in class_tuples(rule, *size[:2]):
                    self.assertIs(is_lot_at(rule, *size, [kind]), is_lot_at(rule, *less, [kind]))
                everything = class_tuples(rule, *size[:2])
                self.assertIs(is_lot_at(rule, *size, everything), False)
                self.assertIs(is_lot_at(rule, *size, everything[1:]), is_lot_at(rule, *less, everything[1:]))

    def test_is_lot_at_with_values_of_any_kind(self):
        rule, size = suns("0", "10"), (5, 4, 1)
        self.assertEqual([classes(rule, 5), classes(rule, 4)], [[0, 1, 2], [0, 1, 2]])
        self.assertIs(is_lot_at(rule, *size, [("sun", 1)]), True)
        for thing in ODD_VALUES:
            self.assertIs(is_lot_at(rule, *size, thing), False)
            self.assertIs(is_lot_at(rule, *size, [thing]), False)
            self.assertIs(is_lot_at(rule, *size, [("sun", 1), thing]), False)
            self.assertIs(is_lot_at(rule, *size, [("sun", thing)]), thing == 1 and type(thing) is int)
            self.assertIs(is_lot_at(rule, *size, [(thing, 1)]), thing == "sun")
        for thing in [(("sun", 1),), {("sun", 1)}, {("sun", 1): 0}, [["sun", 1]], [("sun", True)], [("sun", 1, 0)],
                      [("suns", 1)], [("sun", 1), ("sun", 1)], [("sun", 1)] * 9, [[("sun", 1)]], ("sun", 1), []]:
            self.assertIs(is_lot_at(rule, *size, thing), False)

    def test_classes_that_no_dancer_has(self):
        rule = suns("0", "10")
        for s, m in [(2, 3), (5, 4), (LONG, LONG)]:
            for kind in [("sun", 3), ("moon", 3), ("sun", LONG), ("sun", -1), ("moon", -2)]:
                self.assertIs(is_lot_at(rule, s, m, 1, [("sun", 1), kind]), False)
        self.assertIs(is_lot_at(rule, 2, 3, 1, [("sun", 1), ("sun", 2)]), False)
        self.assertIs(is_lot_at(rule, 3, 1, 1, [("sun", 1), ("moon", 0)]), True)
        self.assertIs(is_lot_at(rule, 3, 1, 1, [("sun", 1), ("moon", 1)]), False)

    def test_other_orders(self):
        rule = Rule.always(True)
        for some in ([("sun", 0), ("moon", 0)], [("moon", 0), ("sun", 0)]):
            self.assertIs(is_lot_at(rule, 2, 2, 1, some), False)
        rule = suns("10", "1")
        for some in ([("sun", 2), ("sun", 0)], [("sun", 0), ("sun", 2)], [("moon", 0), ("sun", 0), ("sun", 2)]):
            self.assertIs(is_lot_at(rule, 4, 2, 1, some), True)
        for some in ([("moon", 0), ("sun", 0)], [("sun", 2), ("moon", 1)]):
            self.assertIs(is_lot_at(rule, 4, 2, 1, some), False)
        for some in ([("moon", 2), ("sun", 2), ("moon", 0), ("sun", 0), ("moon", 1)],
                     [("sun", 0), ("sun", 2), ("moon", 0), ("moon", 1), ("moon", 2)]):
            self.assertIs(is_lot_at(rule, 4, 4, 1, some), True)

    def test_what_is_passed_stays_as_it_was(self):
        thing = [("sun", 2), ("sun", 0)]
        is_lot_at(suns("10", "1"), 4, 2, 1, thing)
        self.assertEqual(thing, [("sun", 2), ("sun", 0)])
        found = lot_at(RULE, 1, 2, 1)
        found.append(None)
        self.assertEqual(lot_at(RULE, 1, 2, 1), [("moon", 0)])


class Least(unittest.TestCase):
    def box(self, number, least):
        """All tuples of numbers from these on, far enough that each later one has a fellow among them."""
        rule = FORALL_RULES[number]
        bound = rule.lead + 2 * rule.period
        ends = [max(least[0], bound) + rule.period, max(least[1], bound) + rule.period, max(least[2], bound) + 1]
        return product(*[range(low, high) for low, high in zip(least, ends)])

    def first(self, number, least, truth):
        return next((size for size in self.box(number, least) if whole(number, *size) is truth), None)

    def test_least_whole_and_least_apart_among_all(self):
        for number, rule in enumerate(FORALL_RULES):
            if rule.lead + 2 * rule.period <= 6:
                for least in [(1, 1, 1), (2, 1, 1), (1, 2, 1), (1, 1, 2), (2, 3, 1), (3, 2, 2), (4, 5, 1), (6, 7, 3)]:
                    s, m, r = least
                    self.assertEqual(least_whole(rule, suns=s, moons=m, rounds=r), self.first(number, least, True))
                    self.assertEqual(least_apart(rule, suns=s, moons=m, rounds=r), self.first(number, least, False))

    def test_of_greater_periods(self):
        for number, rule in enumerate(FORALL_RULES):
            if rule.lead + 2 * rule.period > 6:
                self.assertEqual(least_whole(rule), self.first(number, (1, 1, 1), True))
                self.assertEqual(least_apart(rule), self.first(number, (1, 1, 1), False))

    def test_there_are_such_and_none(self):
        self.assertIsNone(least_whole(Rule.always(True)))
        self.assertIsNone(least_whole(suns("", "10"), rounds=LONG))
        self.assertEqual(least_apart(Rule.by("rounds", Word("", "01"))), (1, 1, 1))
        self.assertIsNone(least_apart(Rule.by("rounds", Word("", "01")), rounds=2))

    def test_each_number_may_be_left_out(self):
        self.assertEqual(least_whole(suns("", "10") ^ moons("", "10")), (2, 2, 1))
        self.assertEqual(least_whole(suns("", "10") ^ moons("", "10"), suns=3), (3, 2, 1))
        self.assertEqual(least_apart(suns("", "10") ^ moons("", "10"), suns=2, rounds=5), (2, 1, 5))
        rule = Rule.by("rounds", Word("00", "10"))
        self.assertEqual(least_whole(rule), (1, 1, 3))
        self.assertEqual(least_whole(rule, suns=5), (5, 1, 3))
        self.assertEqual(least_whole(rule, moons=6), (1, 6, 3))
        self.assertEqual(least_whole(rule, rounds=7), (1, 1, 7))
        self.assertEqual(least_whole(rule, rounds=2, suns=4), (4, 1, 3))
        self.assertEqual(least_apart(rule, suns=5), (5, 1, 1))
        self.assertEqual(least_apart(rule, moons=6), (1, 6, 1))
        self.assertEqual(least_apart(rule, rounds=2), (1, 1, 2))
        self.assertIsNone(least_apart(rule, rounds=3))

    def test_numbers_are_passed_by_keyword_alone(self):
        for ask in (least_whole, least_apart):
            with self.assertRaises(TypeError):
                ask(RULE, 1, 1, 1)

    def test_great_numbers(self):
        for rule in FORALL_RULES:
            for s, m, r in [(LONG, LONG + 1, LONG), (LONG, 1, 1), (2, LONG, 1), (1, 1, LONG)]:
                least = dict(suns=s, moons=m, rounds=r)
                found = least_whole(rule, **least)
                if found is None:
                    self.assertIsNone(least_whole(rule, suns=s + 1, moons=m + 1, rounds=r + 1))
                self.holds(rule, (s, m, r), found, True)
                self.holds(rule, (s, m, r), least_apart(rule, **least), False)

    def holds(self, rule, least, found, truth):
        """That found is the first tuple from these on for which hangs_at tells this truth."""
        period = rule.lead + rule.period
        ends = [max(number, period) + period for number in least[:2]] + [max(least[2], period) + 1]
        spans = [range(low, high if found is None else min(high, low + 2 * period))
                 for low, high in zip(least, ends)]
        expected = next((size for size in product(*spans) if hangs_at(rule, *size) is truth), None)
        self.assertEqual(found, expected)

    def test_whole_from_among_all(self):
        for number, rule in enumerate(FORALL_RULES):
            most = rule.lead + rule.period
            expected = None
            for least in range(most + 1, 0, -1):
                sizes = product(range(least, rule.lead + 2 * rule.period + 2), repeat=2)
                if not all(whole(number, s, m, least) for s, m in sizes):
                    break
                expected = least
            self.assertEqual(whole_from(rule), expected)

    def test_whole_from_known_by_hand(self):
        self.assertEqual(whole_from(RULE), 2)
        self.assertIsNone(whole_from(Rule.always(True)))
        self.assertEqual(whole_from(Rule.by("rounds", Word("", "01"))), 2)
        self.assertEqual(whole_from(Rule.by("rounds", Word("00", "1"))), 3)
        self.assertEqual(whole_from(Rule.by("rounds", Word("00", "0001"))), 6)
        self.assertIsNone(whole_from(moons("1", "0")))


class Whens(unittest.TestCase):
    def test_wrong(self):
        for thing in ODD_VALUES + [RULE.parts(), When, When(RULE), Dance(1, 1, 1, RULE)]:
            if not isinstance(thing, Rule):
                with self.assertRaises(Wrong) as context:
                    When(thing)
                self.assertEqual(context.exception.place, 0)

    def test_rule_and_call(self):
        for rule in FORALL_RULES:
            when = When(rule)
            self.assertEqual(when.rule, rule)
            for size in SIZES[::3] + LONG_SIZES:
                self.assertIs(when(*size), hangs_at(rule, *size))

    def test_cases_are_fellows_of_themselves_that_hang_together(self):
        for number, rule in enumerate(FORALL_RULES):
            bound, most = rule.lead + 2 * rule.period, rule.lead + rule.period
            found = When(rule).cases()
            sizes = [size for size in product(range(1, bound + 2), range(1, bound + 2), range(1, most + 2))
                     if fellow(rule, *size) == size]
            self.assertEqual(len(sizes), (bound - 1) ** 2 * most)
            self.assertEqual(found, [size for size in sizes if whole(number, *size)])

    def test_cases_tell_all(self):
        for rule in FORALL_RULES:
            cases = When(rule).cases()
            for size in SIZES + LONG_SIZES:
                self.assertIs(fellow(rule, *size) in cases, hangs_at(rule, *size))

    def first_parting(self, one, other):
        """The least tuple for which two Whens tell otherwise, found among all that can matter."""
        period = lcm(one.rule.period, other.rule.period)
        bound = max(one.rule.lead, other.rule.lead) + 2 * period
        sizes = product(range(1, bound + 1), range(1, bound + 1), range(1, bound + 1))
        return next((size for size in sizes if one(*size) is not other(*size)), None)

    def test_equal_and_parting_by_what_is_told(self):
        rules = FORALL_RULES[::2] + FORALL_RULES[-5:] + [RULE, ~RULE, RULE.swapped(), EVEN]
        answers = set()
        for one, other in product(rules, repeat=2):
            if lcm(one.period, other.period) <= 4:
                expected = self.first_parting(When(one), When(other))
                self.assertEqual(When(one).parting(When(other)), expected)
                self.assertIs(When(one) == When(other), expected is None)
                self.assertIs(When(one) != When(other), expected is not None)
                answers.add(expected)
        self.assertIn(None, answers)
        self.assertGreater(len(answers), 8)

    def test_equal_whatever_the_rules(self):
        alike = [(Rule.always(True), Rule.always(False)), (RULE, RULE ^ Rule.always(False)),
                 (Rule.by("rounds", Word("", "01")), Rule.by("rounds", Word("0", "1"))),
                 (turns("", "01"), turns("", "0101")), (suns("", "10"), moons("1", "0"))]
        for one, other in alike:
            self.assertIs(When(one) == When(other), True)
            self.assertIs(When(one) != When(other), False)
            self.assertIsNone(When(one).parting(When(other)))

    def test_parting_in_each_of_the_three(self):
        one, two = When(Rule.by("rounds", Word("00", "1"))), When(Rule.by("rounds", Word("0", "1")))
        self.assertEqual([one.parting(two), two.parting(one)], [(1, 1, 2), (1, 1, 2)])
        never = When(Rule.always(True))
        self.assertEqual([never.parting(one), one.parting(never)], [(1, 1, 3), (1, 1, 3)])
        self.assertEqual([never.parting(When(EVEN)), When(EVEN).parting(never)], [(1, 2, 2), (1, 2, 2)])
        self.assertEqual(never.parting(When(EVEN.swapped())), (2, 1, 2))

    def test_parting_beyond_the_bounds_of_the_one(self):
        # Three and five moon dancers are fellows for the one rule, and not for the other one.
        one, other = turns("", "10"), turns("", "0101") | moons("", "0001")
        self.assertEqual([fellow(one, 1, 5, 2), fellow(other, 1, 5, 2)], [(1, 3, 2), (1, 5, 2)])
        self.assertEqual([When(one).parting(When(other)), When(other).parting(When(one))], [(1, 5, 2), (1, 5, 2)])
        other = other.swapped()
        self.assertEqual(When(one.swapped()).parting(When(other)), (5, 1, 2))

    def test_equal_to_nothing_else(self):
        when = When(RULE)
        for thing in ODD_VALUES + [RULE, when.cases(), When]:
            self.assertIs(when == thing, False)
            self.assertIs(thing == when, False)
            self.assertIs(when != thing, True)

    def test_asking_twice_tells_the_same(self):
        when, other = When(RULE), When(EVEN)
        answers = []
        for _ in range(2):
            cases = when.cases()
            answers.append([list(cases), when(2, 2, 1), when.parting(other), when == other, when.rule.parts()])
            cases.clear()
        self.assertEqual(answers[0], answers[1])


if __name__ == "__main__":
    unittest.main()
