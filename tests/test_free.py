import unittest
from itertools import permutations, product

from poleribbons.classes import class_of, fellow
from poleribbons.dances import Dance
from poleribbons.free import free_at, free_ribbons, is_lifting, kernel_of, lifting, many_free_at
from poleribbons.layers import hangs, layers_of
from poleribbons.rules import Rule
from poleribbons.words import Word
from cloths import BIG_DANCES, DANCES, NO_RIBBONS, all_ribbons, arrows, swapped
from samples import FORALL_RULES, LONG, ODD_VALUES, RULES, moons, suns, turns

RULE = RULES[13]
# The suns lie above the moons 0 and 2, the moons 1 and 3 above the suns.
PARTED = Dance(2, 4, 1, moons("", "10"))
LONG_SIZES = [(LONG, LONG + 1, LONG + 2), (LONG + 1, 1, 1), (1, LONG, 1), (2, LONG, 2), (10 ** 40 - 1, 10 ** 39, 1)]


def free_among(dance, left):
    """The ribbons of those left that none of these lies above."""
    below = {b for a, b in arrows(dance) if a in left and b in left}
    return [ribbon for ribbon in all_ribbons(dance) if ribbon in left and ribbon not in below]


def can_be_lifted(dance, some):
    """Whether each ribbon of these lies below none but those ahead of it."""
    return all(one in some[:some.index(other)] for one, other in arrows(dance) if other in some)


def kernels(dance):
    """All that may be left if ribbons are taken away one by one, in every order."""
    ends, found, waiting = set(), set(), [frozenset(all_ribbons(dance))]
    while waiting:
        left = waiting.pop()
        if left not in found:
            found.add(left)
            above = {a for a, b in arrows(dance) if a in left and b in left}
            below = {b for a, b in arrows(dance) if a in left and b in left}
            away = [ribbon for ribbon in left if ribbon not in above or ribbon not in below]
            waiting += [left - {ribbon} for ribbon in away]
            ends |= set() if away else {left}
    return ends


class Free(unittest.TestCase):
    def test_no_ribbon_lies_above(self):
        for dance in DANCES + BIG_DANCES:
            self.assertEqual(free_ribbons(dance), free_among(dance, all_ribbons(dance)))

    def test_known_by_hand(self):
        self.assertEqual(free_ribbons(Dance(2, 3, 2, Rule.always(True))), [("sun", 0), ("sun", 1)])
        self.assertEqual(free_ribbons(Dance(2, 2, 2, Rule.always(False))), [("moon", 0), ("moon", 1)])
        self.assertEqual(free_ribbons(PARTED), [("moon", 1), ("moon", 3)])
        self.assertEqual(free_ribbons(Dance(1, 1, 2, RULE)), [])


class Lifting(unittest.TestCase):
    def test_step_by_step(self):
        shapes = set()
        for dance in DANCES + BIG_DANCES:
            left, expected = all_ribbons(dance), []
            while free_among(dance, left):
                expected.append(free_among(dance, left))
                left = [ribbon for ribbon in left if ribbon not in expected[-1]]
            found = lifting(dance)
            self.assertEqual(found, expected)
            self.assertIs(is_lifting(dance, sum(found, [])), True)
            shapes.add((found == [], left == []))
        self.assertEqual(shapes, {(True, False), (False, True), (False, False)})

    def test_all_ribbons_and_none(self):
        self.assertEqual(lifting(PARTED), [[("moon", 1), ("moon", 3)], [("sun", 0), ("sun", 1)],
                                           [("moon", 0), ("moon", 2)]])
        self.assertEqual(lifting(Dance(1, 1, 2, RULE)), [])
        for dance in DANCES:
            if hangs(dance):
                self.assertEqual(lifting(dance), [])
            lifted = sum(lifting(dance), [])
            self.assertEqual(len(lifted) == len(all_ribbons(dance)), len(layers_of(dance)) == len(all_ribbons(dance)))

    def test_is_lifting_of_all_lists(self):
        seen = set()
        for dance in DANCES:
            if dance.suns + dance.moons <= 5:
                lists = [list(some) for many in range(5) for some in permutations(all_ribbons(dance), many)]
                for some in lists[::1 if dance.suns + dance.moons < 5 else 3]:
                    expected = can_be_lifted(dance, some)
                    self.assertIs(is_lifting(dance, some), expected)
                    self.assertIs(is_lifting(dance, some + some[:1]), expected and some == [])
                    seen.add(expected)
        self.assertEqual(seen, {True, False})

    def test_none_is_a_lifting_of_all(self):
        for dance in DANCES + BIG_DANCES:
            self.assertIs(is_lifting(dance, []), True)
            self.assertIs(is_lifting(dance, ()), False)

    def test_other_values(self):
        self.assertIs(is_lifting(PARTED, [("moon", 1)]), True)
        dance = Dance(2, 3, 1, moons("", "10"))
        for thing in NO_RIBBONS + ODD_VALUES:
            self.assertIs(is_lifting(dance, thing), thing == [])
            self.assertIs(is_lifting(dance, [thing]), False)
            self.assertIs(is_lifting(dance, [("moon", 1), thing]), False)
        good = [("moon", 1), ("sun", 0), ("sun", 1)]
        self.assertIs(is_lifting(dance, good), True)
        for thing in (tuple(good), {ribbon: True for ribbon in good}, [good], [good[0], list(good[1])],
                      [("moon", True), ("sun", 0)], [("moon", 1), ("sun", False)], good * 2, good * 3333,
                      [("moon", 1)] * 2, good[::-1], [("moon", 1), ("moon", 3)]):
            self.assertIs(is_lifting(dance, thing), False)


class Kernel(unittest.TestCase):
    def test_in_whatever_order(self):
        # All orders of small dances, by what is left; each comes to the same.
        seen = set()
        for dance in DANCES + [Dance(3, 4, 1, rule) for rule in RULES]:
            found = kernel_of(dance)
            self.assertEqual(kernels(dance), {frozenset(found)})
            self.assertEqual(found, sorted(found))
            seen.add((found == [], len(found) == len(all_ribbons(dance))))
        self.assertEqual(seen, {(True, False), (False, True), (False, False)})

    def test_what_hangs_together_is_left_whole(self):
        for dance in DANCES + BIG_DANCES:
            if hangs(dance):
                self.assertEqual(kernel_of(dance), all_ribbons(dance))

    def test_what_stands_between_two_layers_is_left(self):
        # The sun 0 is knotted with the moon 0, the sun 1 with the moon 1, and the moon 2 lies between these knots.
        one, two = suns("1", "0") & moons("1", "0"), suns("01", "0") & moons("01", "0")
        dance = Dance(2, 3, 2, suns("1", "0") & ~moons("1", "0") | Rule.by("rounds", Word("", "10")) & (one | two))
        self.assertEqual(layers_of(dance), [[("moon", 0), ("sun", 0)], [("moon", 2)], [("moon", 1), ("sun", 1)]])
        self.assertEqual(kernel_of(dance), all_ribbons(dance))
        self.assertEqual([free_ribbons(dance), lifting(dance)], [[], []])

    def test_the_sides_exchanged(self):
        # Promise 10.
        for dance in DANCES:
            other = dance.swapped()
            self.assertEqual(free_ribbons(other), sorted(map(swapped, free_ribbons(dance))))
            self.assertEqual(lifting(other), [sorted(map(swapped, some)) for some in lifting(dance)])
            self.assertEqual(kernel_of(other), sorted(map(swapped, kernel_of(dance))))


class ForAllNumbers(unittest.TestCase):
    def test_as_small_dances_do(self):
        for rule in FORALL_RULES:
            for size in list(product((1, 2, 3, 7), (1, 2, 5), (1, 2, 4))) + [(8, 8, 12)]:
                dance = Dance(*size, rule)
                free = free_ribbons(dance)
                self.assertEqual(many_free_at(rule, *size), len(free))
                expected = sorted({(side, class_of(rule, n)) for side, n in free})
                self.assertEqual(free_at(rule, *size), expected)
                # All ribbons of a class are free, or none of them.
                self.assertEqual([one for one in all_ribbons(dance) if (one[0], class_of(rule, one[1])) in expected],
                                 free)

    def test_numbers_of_forty_digits_as_their_fellows(self):
        # Promises 5 and 6.
        answers = set()
        for rule in FORALL_RULES:
            for size in LONG_SIZES:
                found = free_at(rule, *size)
                self.assertEqual(found, free_at(rule, *fellow(rule, *size)))
                many = 0
                for side, kind in found:
                    dancers = size[0] if side == "sun" else size[1]
                    many += 1 if kind < rule.lead else (dancers - 1 - kind) // rule.period + 1
                self.assertEqual(many_free_at(rule, *size), many)
                answers.add(many > 10)
        self.assertEqual(answers, {True, False})

    def test_known_by_hand(self):
        self.assertEqual(free_at(RULE, 1, LONG, 1), [("moon", 0)])
        self.assertEqual(many_free_at(RULE, 1, LONG, 1), (LONG + 1) // 2)
        # An odd number of turns is laid the other way round by round, an even one always alike.
        self.assertEqual([free_at(RULE, 1, LONG, 2), many_free_at(RULE, 1, LONG, 2)], [[], 0])
        self.assertEqual(free_at(RULE, 1, LONG + 1, 2), [("moon", 0)])
        self.assertEqual(many_free_at(RULE, 1, LONG + 1, LONG), (LONG + 1) // 2)
        self.assertEqual(many_free_at(Rule.always(True), LONG, LONG + 5, 7), LONG)
        self.assertEqual(free_at(Rule.always(True), LONG, 1, 1), [("sun", 0)])
        late = suns("00", "1")
        self.assertEqual(free_at(late, LONG, 1, 1), [("sun", 2)])
        self.assertEqual(many_free_at(late, LONG, 1, LONG), LONG - 2)
        self.assertEqual(many_free_at(late, 2, LONG, 1), LONG)

    def test_the_sides_exchanged(self):
        # Promise 10.
        for rule in FORALL_RULES:
            for s, m, r in LONG_SIZES + [(3, 2, 2)]:
                self.assertEqual(many_free_at(rule.swapped(), m, s, r), many_free_at(rule, s, m, r))
                self.assertEqual(free_at(rule.swapped(), m, s, r), sorted(map(swapped, free_at(rule, s, m, r))))


class Kept(unittest.TestCase):
    def test_all_is_new(self):
        for act in (free_ribbons, lifting, kernel_of):
            for dance in (PARTED, Dance(2, 2, 2, turns("", "10"))):
                first = act(dance)
                kept = [list(one) for one in first]
                for one in first:
                    if isinstance(one, list):
                        one.clear()
                first.clear()
                self.assertEqual([list(one) for one in act(dance)], kept)
        thing = [("moon", 3), ("moon", 1)]
        self.assertIs(is_lifting(PARTED, thing), True)
        self.assertEqual(thing, [("moon", 3), ("moon", 1)])
        free_at(RULE, 1, 2, 1).clear()
        self.assertEqual(free_at(RULE, 1, 2, 1), [("moon", 0)])


if __name__ == "__main__":
    unittest.main()
