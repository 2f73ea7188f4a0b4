import unittest
from itertools import combinations, product

from poleribbons.dances import Dance
from poleribbons.errors import NoRibbon
from poleribbons.layers import hangs, is_lot, layer_of, layers_of, least_lot, lots_of, reached_from
from poleribbons.rings import ring_of
from poleribbons.rules import Rule
from poleribbons.words import Word
from cloths import BIG_DANCES, DANCES, NO_RIBBONS, all_ribbons, arrows, closure, swapped
from samples import ODD_VALUES, RULES

SUNS_FIRST = Dance(2, 3, 2, Rule.always(True))
# The sun dancers 0, the moon dancers 1, the sun dancers 2, one above the other.
LADDER = Dance(4, 3, 1, Rule.by("suns", Word("11", "0")))


def whole(dance):
    found = closure(dance)
    return all((one, other) in found for one, other in product(all_ribbons(dance), repeat=2) if one != other)


def all_lots(dance):
    """All lots, found among all sets of ribbons."""
    names, above = all_ribbons(dance), arrows(dance)
    sets = [list(some) for many in range(1, len(names)) for some in combinations(names, many)]
    return [some for some in sets if not any(b in some and a not in some for a, b in above)]


def expected_layers(dance):
    """All layers from above downwards, the one with the least ribbon first of those that could come next."""
    found = closure(dance)
    left = []
    for ribbon in all_ribbons(dance):
        own = [other for other in all_ribbons(dance)
               if other == ribbon or (ribbon, other) in found and (other, ribbon) in found]
        if own not in left:
            left.append(own)
    ordered = []
    while left:
        free = [layer for layer in left
                if not any(b in layer and a in sum(left, []) and a not in layer for a, b in arrows(dance))]
        ordered.append(min(free))
        left.remove(min(free))
    return ordered


class Hangs(unittest.TestCase):
    def test_as_steps_tell(self):
        for dance in DANCES + BIG_DANCES:
            self.assertIs(hangs(dance), whole(dance))
        self.assertEqual({hangs(dance) for dance in DANCES}, {True, False})

    def test_just_where_there_is_a_ring_and_no_lot(self):
        # Promise 7.
        for dance in DANCES + BIG_DANCES:
            self.assertIs(hangs(dance), ring_of(dance) is not None)
            self.assertIs(hangs(dance), lots_of(dance) == [])
            self.assertIs(hangs(dance), least_lot(dance) is None)
            self.assertIs(hangs(dance), len(layers_of(dance)) == 1)

    def test_it_does_so_with_more_rounds(self):
        # Promise 8.
        for dance in DANCES:
            for more in range(dance.rounds + 1, dance.rounds + 4):
                if hangs(dance):
                    self.assertIs(hangs(Dance(dance.suns, dance.moons, more, dance.rule)), True)

    def test_the_sides_exchanged(self):
        # Promise 10.
        for dance in DANCES + BIG_DANCES:
            other = dance.swapped()
            self.assertIs(hangs(other), hangs(dance))
            turned = [sorted(swapped(ribbon) for ribbon in layer) for layer in layers_of(dance)]
            self.assertEqual(sorted(layers_of(other)), sorted(turned))
            turned = [sorted(swapped(ribbon) for ribbon in lot) for lot in lots_of(dance)]
            self.assertEqual(sorted(lots_of(other)), sorted(turned))
            for ribbon in all_ribbons(dance):
                reached = sorted(swapped(one) for one in reached_from(dance, ribbon))
                self.assertEqual(reached_from(other, swapped(ribbon)), reached)
                layer = sorted(swapped(one) for one in layer_of(dance, ribbon))
                self.assertEqual(layer_of(other, swapped(ribbon)), layer)


class Layers(unittest.TestCase):
    def test_reached_from(self):
        for dance in DANCES + BIG_DANCES[::5]:
            found = closure(dance)
            for ribbon in all_ribbons(dance):
                self.assertEqual(reached_from(dance, ribbon), sorted(b for a, b in found if a == ribbon))

    def test_reached_from_itself_only_if_steps_lead_back(self):
        self.assertEqual(reached_from(SUNS_FIRST, ("sun", 0)), [("moon", 0), ("moon", 1), ("moon", 2)])
        self.assertEqual(reached_from(SUNS_FIRST, ("moon", 0)), [])
        knot = Dance(1, 1, 2, Rule.by("rounds", Word("", "01")))
        self.assertEqual(reached_from(knot, ("sun", 0)), [("moon", 0), ("sun", 0)])

    def test_layer_of(self):
        for dance in DANCES + BIG_DANCES[::5]:
            found = closure(dance)
            for ribbon in all_ribbons(dance):
                own = [other for other in all_ribbons(dance)
                       if other == ribbon or (ribbon, other) in found and (other, ribbon) in found]
                self.assertEqual(layer_of(dance, ribbon), own)

    def test_no_ribbon_tells_the_very_value(self):
        dance = Dance(2, 3, 1, RULES[0])
        for ask, thing in product([reached_from, layer_of], NO_RIBBONS):
            with self.assertRaises(NoRibbon) as context:
                ask(dance, thing)
            self.assertIs(context.exception.ribbon, thing)

    def test_layers_from_above_downwards(self):
        for dance in DANCES + BIG_DANCES:
            self.assertEqual(layers_of(dance), expected_layers(dance))

    def test_layers_in_their_order(self):
        upper = [[("sun", 0)], [("sun", 1)], [("moon", 0)], [("moon", 1)], [("moon", 2)]]
        self.assertEqual(layers_of(SUNS_FIRST), upper)
        self.assertEqual(layers_of(LADDER), upper + [[("sun", 2)], [("sun", 3)]])

    def test_the_least_comes_though_it_was_hidden(self):
        # Moon 0 lies below sun 1 alone; as soon as that is gone, it comes ahead of sun 2.
        rule = ~Rule.by("moons", Word("1", "0")) | Rule.by("suns", Word("01", "0"))
        dance = Dance(3, 1, 1, rule)
        self.assertEqual(layers_of(dance), [[("sun", 1)], [("moon", 0)], [("sun", 0)], [("sun", 2)]])
        self.assertEqual(layers_of(dance), expected_layers(dance))


class Lots(unittest.TestCase):
    def test_all_sets_of_ribbons_of_small_dances(self):
        for dance in DANCES:
            if dance.suns + dance.moons <= 5:
                expected = all_lots(dance)
                self.assertEqual(lots_of(dance), expected)
                self.assertEqual(least_lot(dance), expected[0] if expected else None)
                for many in range(dance.suns + dance.moons + 1):
                    for some in combinations(all_ribbons(dance), many):
                        self.assertIs(is_lot(dance, list(some)), list(some) in expected)
                        self.assertIs(is_lot(dance, list(some)[::-1]), list(some) in expected)

    def test_lots_of_greater_dances(self):
        for dance in [Dance(5, 4, 1, rule) for rule in RULES]:
            self.assertEqual(lots_of(dance), all_lots(dance))

    def test_those_with_fewer_ribbons_first(self):
        for dance in DANCES + BIG_DANCES:
            lots = lots_of(dance)
            self.assertEqual(lots, sorted(lots, key=lambda lot: (len(lot), lot)))
            for lot in lots:
                self.assertEqual(lot, sorted(lot))
                self.assertIs(is_lot(dance, lot), True)

    def test_many_lots(self):
        self.assertEqual(len(lots_of(Dance(8, 8, 12, Rule.always(True)))), 255 + 254)
        self.assertEqual(len(lots_of(Dance(8, 8, 1, Rule.always(False)))), 255 + 254)
        self.assertEqual(len(lots_of(Dance(8, 1, 1, Rule.always(False)))), 1 + 254)

    def test_least_lot_is_the_first_one_and_a_layer(self):
        for dance in DANCES + BIG_DANCES:
            lots = lots_of(dance)
            self.assertEqual(least_lot(dance), lots[0] if lots else None)
            if lots:
                self.assertIn(least_lot(dance), layers_of(dance))

    def test_none_if_the_cloth_hangs_together(self):
        dance = Dance(2, 3, 2, RULES[13])
        self.assertEqual(lots_of(dance), [])
        self.assertIsNone(least_lot(dance))

    def test_is_lot_with_other_values(self):
        dance = SUNS_FIRST
        self.assertIs(is_lot(dance, [("sun", 0)]), True)
        for thing in ODD_VALUES:
            self.assertIs(is_lot(dance, thing), False)
        for thing in NO_RIBBONS:
            self.assertIs(is_lot(dance, [thing]), False)
            self.assertIs(is_lot(dance, [("sun", 0), thing]), False)
        for thing in [[], [("sun", 0), ("sun", 0)], (("sun", 0),), {("sun", 0)}, {("sun", 0): 0}, ("sun", 0),
                      [["sun", 0]], [("sun", False)], [[("sun", 0)]], all_ribbons(dance), [("sun", 0)] * 3000,
                      all_ribbons(dance) + [("sun", 0)], [("moon", 0)], [("sun", 0), ("moon", 0)]]:
            self.assertIs(is_lot(dance, thing), False)

    def test_is_lot_in_any_order(self):
        for lot in ([("sun", 1), ("sun", 0)], [("moon", 2), ("sun", 1), ("moon", 0), ("sun", 0)]):
            self.assertIs(is_lot(SUNS_FIRST, lot), True)
            self.assertIs(is_lot(SUNS_FIRST, sorted(lot)), True)


class Asking(unittest.TestCase):
    def test_twice_tells_the_same_in_new_lists(self):
        dance = SUNS_FIRST
        asked = [lambda: layers_of(dance), lambda: lots_of(dance), lambda: least_lot(dance),
                 lambda: reached_from(dance, ("sun", 0)), lambda: layer_of(dance, ("sun", 0))]
        for ask in asked:
            first = ask()
            kept = [list(item) if isinstance(item, list) else item for item in first]
            inner = [item for item in first if isinstance(item, list)]
            self.assertEqual(len({id(item) for item in inner}), len(inner))
            for item in inner:
                item.append(None)
            first.clear()
            self.assertEqual(ask(), kept)

    def test_what_is_passed_stays_as_it_was(self):
        for thing in [[("sun", 1), ("sun", 0)], [("sun", 1), ["sun", 0]], [("moon", 1), ("sun", 0), ("moon", 1)]]:
            before = list(thing)
            is_lot(SUNS_FIRST, thing)
            self.assertEqual(thing, before)


if __name__ == "__main__":
    unittest.main()
