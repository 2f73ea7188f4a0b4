import unittest
from itertools import product

from poleribbons.dances import Dance
from poleribbons.errors import NoRibbon
from poleribbons.ribbons import (are_crossings, crossings, is_ribbon, lies_above, meetings_of, over, ribbons,
                                 same_cloth, under)
from poleribbons.rules import Rule
from poleribbons.words import Word
from cloths import BIG_DANCES, DANCES, NO_RIBBONS, all_ribbons, arrows, swapped
from samples import ODD_VALUES, RULES


class Ribbons(unittest.TestCase):
    def test_all_ascending(self):
        for dance in DANCES:
            self.assertEqual(ribbons(dance), all_ribbons(dance))
            self.assertEqual(ribbons(dance), sorted(ribbons(dance)))
        self.assertEqual(ribbons(Dance(2, 1, 3, RULES[0])), [("moon", 0), ("sun", 0), ("sun", 1)])

    def test_is_ribbon(self):
        dance = Dance(2, 3, 1, RULES[0])
        for side, number in product(["sun", "moon", "sum", ""], range(-2, 6)):
            self.assertIs(is_ribbon(dance, (side, number)), (side, number) in all_ribbons(dance))
        for thing in NO_RIBBONS:
            self.assertIs(is_ribbon(dance, thing), False)

    def test_no_ribbon_tells_the_very_value(self):
        dance = Dance(2, 3, 1, RULES[0])
        asked = [meetings_of, over, under, lambda d, thing: lies_above(d, thing, ("sun", 0)),
                 lambda d, thing: lies_above(d, ("sun", 0), thing)]
        for ask, thing in product(asked, NO_RIBBONS):
            with self.assertRaises(NoRibbon) as context:
                ask(dance, thing)
            self.assertIs(context.exception.ribbon, thing)

    def test_no_ribbon_of_one_ahead_of_other(self):
        dance = Dance(2, 3, 1, RULES[0])
        for one, other in [(("sun", 2), ["sun", 0]), (["sun", 0], ("sun", 2))]:
            with self.assertRaises(NoRibbon) as context:
                lies_above(dance, one, other)
            self.assertIs(context.exception.ribbon, one)

    def test_meetings_of_a_dancer_in_their_order(self):
        for dance in DANCES + BIG_DANCES[:1]:
            for side, number in all_ribbons(dance):
                place = 1 if side == "sun" else 2
                own = [meeting for meeting in dance.meetings() if meeting[place] == number]
                own = sorted(own, key=lambda meeting: dance.counts(meeting)[place - 1])
                self.assertEqual(meetings_of(dance, (side, number)), own)
        self.assertEqual(meetings_of(Dance(2, 3, 2, RULES[0]), ("moon", 1)),
                         [(0, 0, 1), (0, 1, 1), (1, 0, 1), (1, 1, 1)])
        self.assertEqual(meetings_of(Dance(2, 3, 1, RULES[0]), ("sun", 1)), [(0, 1, 0), (0, 1, 1), (0, 1, 2)])


class Above(unittest.TestCase):
    def test_lies_above_as_the_meetings_tell(self):
        for dance in DANCES + BIG_DANCES[::6]:
            above = arrows(dance)
            for one, other in product(all_ribbons(dance), repeat=2):
                self.assertIs(lies_above(dance, one, other), (one, other) in above)

    def test_none_above_itself_or_its_own_side(self):
        dance = Dance(2, 3, 4, RULES[13])
        for one, other in product(all_ribbons(dance), repeat=2):
            if one[0] == other[0]:
                self.assertIs(lies_above(dance, one, other), False)

    def test_two_may_lie_above_one_another(self):
        dance = Dance(1, 1, 2, Rule.by("rounds", Word("0", "1")))
        self.assertIs(lies_above(dance, ("sun", 0), ("moon", 0)), True)
        self.assertIs(lies_above(dance, ("moon", 0), ("sun", 0)), True)

    def test_over_and_under(self):
        for dance in DANCES + BIG_DANCES[::6]:
            above = arrows(dance)
            for ribbon in all_ribbons(dance):
                self.assertEqual(over(dance, ribbon), sorted(b for a, b in above if a == ribbon))
                self.assertEqual(under(dance, ribbon), sorted(a for a, b in above if b == ribbon))

    def test_ribbons_of_one_class_lie_above_the_same_ones(self):
        # Promise 5.
        for dance in BIG_DANCES:
            lead, period = dance.rule.lead, dance.rule.period
            for number in range(lead, 8 - period):
                for side in ("sun", "moon"):
                    one, other = (side, number), (side, number + period)
                    self.assertEqual(over(dance, one), over(dance, other))
                    self.assertEqual(under(dance, one), under(dance, other))

    def test_the_sides_exchanged(self):
        # Promise 10.
        for dance in DANCES:
            for ribbon in all_ribbons(dance):
                other = dance.swapped()
                self.assertEqual(over(other, swapped(ribbon)), sorted(swapped(one) for one in over(dance, ribbon)))
                self.assertEqual(under(other, swapped(ribbon)), sorted(swapped(one) for one in under(dance, ribbon)))
                self.assertEqual(meetings_of(other, swapped(ribbon)),
                                 [(r, j, i) for r, i, j in meetings_of(dance, ribbon)])

    def test_more_rounds_lay_no_less(self):
        for dance in DANCES:
            more = Dance(dance.suns, dance.moons, dance.rounds + 1, dance.rule)
            self.assertLessEqual(arrows(dance), arrows(more))
            for ribbon in all_ribbons(dance):
                self.assertLessEqual(set(over(dance, ribbon)), set(over(more, ribbon)))


class Crossings(unittest.TestCase):
    def test_round_by_round(self):
        for dance in DANCES + BIG_DANCES[::6]:
            found = crossings(dance)
            self.assertEqual(list(found), sorted(product(range(dance.suns), range(dance.moons))))
            for (i, j), text in found.items():
                self.assertEqual(text, "".join("01"[dance.above((r, i, j))] for r in range(dance.rounds)))

    def test_ascending_keys_and_new_dicts(self):
        dance = BIG_DANCES[0]
        found = crossings(dance)
        self.assertEqual(list(found), sorted(found))
        found.clear()
        self.assertEqual(len(crossings(dance)), 64)

    def test_the_sides_exchanged(self):
        for dance in DANCES:
            turned = {(j, i): "".join("10"[int(bit)] for bit in text) for (i, j), text in crossings(dance).items()}
            self.assertEqual(crossings(dance.swapped()), turned)

    def test_same_cloth(self):
        for one, other in product(DANCES[::2], DANCES[::5]):
            numbers = (one.suns, one.moons, one.rounds) == (other.suns, other.moons, other.rounds)
            self.assertIs(same_cloth(one, other), numbers and arrows_with_rounds(one) == arrows_with_rounds(other))

    def test_same_cloth_by_other_rules(self):
        alike = [(RULES[2], Rule.by("turns", Word("1010", "1010"))), (RULES[0], ~RULES[1]),
                 (RULES[9], RULES[9] & RULES[0])]
        for one, other in alike:
            self.assertIs(same_cloth(Dance(3, 2, 3, one), Dance(3, 2, 3, other)), True)
        self.assertIs(same_cloth(Dance(1, 1, 1, RULES[2]), Dance(1, 1, 1, RULES[0])), True)
        self.assertIs(same_cloth(Dance(1, 1, 2, RULES[2]), Dance(1, 1, 2, RULES[0])), False)

    def test_other_numbers_make_another_cloth(self):
        numbers = [(2, 3, 2), (3, 2, 2), (2, 2, 3), (2, 3, 1), (2, 2, 2), (3, 3, 2)]
        for m, n in product(range(len(numbers)), repeat=2):
            self.assertIs(same_cloth(Dance(*numbers[m], RULES[0]), Dance(*numbers[n], RULES[0])), m == n)


def arrows_with_rounds(dance):
    return [dance.rule(*meeting, dance.suns, dance.moons) for meeting in dance.meetings()]


class AreCrossings(unittest.TestCase):
    def test_the_crossings_of_dances(self):
        for dance in DANCES + BIG_DANCES:
            self.assertIs(are_crossings(crossings(dance)), True)

    def test_those_that_no_rule_need_make(self):
        self.assertIs(are_crossings({(0, 0): "0"}), True)
        self.assertIs(are_crossings({(0, 0): "0110100110010110" * 20}), True)
        self.assertIs(are_crossings({(i, j): "01" for i in range(30) for j in range(30)}), True)

    def test_keys_in_another_order(self):
        found = crossings(Dance(3, 2, 2, RULES[13]))
        self.assertIs(are_crossings(dict(reversed(list(found.items())))), True)
        self.assertIs(are_crossings({key: found[key] for key in sorted(found, key=lambda key: key[1])}), True)

    def test_a_key_left_out_or_put_otherwise(self):
        found = crossings(Dance(3, 2, 2, RULES[13]))
        for key in found:
            rest = {other: text for other, text in found.items() if other != key}
            self.assertIs(are_crossings(rest), False)
            for thing in [(3, 2), (0, 2), (3, 0), (-1, 0), (0, -1), (10 ** 39, 0), key + (0,), key[:1], key[0],
                          None, True, "00", ("0", "0"), (None, 0), (0, None), (0, (0,))]:
                if thing not in rest:
                    self.assertIs(are_crossings({**rest, thing: "01"}), False)
        self.assertIs(are_crossings({**found, (3, 0): "01"}), False)
        self.assertIs(are_crossings({**found, None: "01"}), False)

    def test_truths_are_no_numbers(self):
        self.assertIs(are_crossings({(False, 0): "0"}), False)
        self.assertIs(are_crossings({(0, False): "0"}), False)
        self.assertIs(are_crossings({(0, 0): "0", (True, 0): "1"}), False)
        self.assertIs(are_crossings({(0, 0): "0", (0, True): "1"}), False)

    def test_a_text_put_otherwise(self):
        found = crossings(Dance(3, 2, 2, RULES[13]))
        for key in found:
            for thing in ["", "0", "011", "02", "0 ", " 01", "01\n", "ab", b"01", 1, None, True, ["0", "1"],
                          ("0", "1"), []]:
                self.assertIs(are_crossings({**found, key: thing}), False)
            self.assertIs(are_crossings({**found, key: "11"}), True)

    def test_texts_of_no_length(self):
        self.assertIs(are_crossings({(0, 0): ""}), False)
        self.assertIs(are_crossings({(0, 0): "", (0, 1): ""}), False)

    def test_numbers_that_do_not_begin_with_0(self):
        self.assertIs(are_crossings({(1, 1): "0"}), False)
        self.assertIs(are_crossings({(1, 0): "0"}), False)
        self.assertIs(are_crossings({(0, 0): "0", (1, 1): "0"}), False)
        self.assertIs(are_crossings({(0, 0): "0", (2, 0): "0"}), False)

    def test_other_values(self):
        found = crossings(Dance(2, 2, 1, RULES[0]))
        for thing in ODD_VALUES + [list(found), list(found.items()), tuple(found.items()), [found], {0: found}]:
            self.assertIs(are_crossings(thing), False)

    def test_what_is_passed_stays_as_it_was(self):
        for thing in [{(0, 1): "01", (0, 0): "11"}, {(0, 1): "01", (0, 0): ["1"]}]:
            before = list(thing.items())
            are_crossings(thing)
            self.assertEqual(list(thing.items()), before)


class Asking(unittest.TestCase):
    def test_twice_tells_the_same_in_new_lists(self):
        dance = Dance(2, 3, 2, RULES[13])
        asked = [lambda: ribbons(dance), lambda: meetings_of(dance, ("sun", 1)), lambda: over(dance, ("sun", 1)),
                 lambda: under(dance, ("sun", 1)), lambda: crossings(dance)]
        for ask in asked:
            first = ask()
            kept = first.copy()
            first.clear()
            self.assertEqual(ask(), kept)
            self.assertNotEqual(kept, first)


if __name__ == "__main__":
    unittest.main()
