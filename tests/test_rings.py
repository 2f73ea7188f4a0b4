import unittest
from itertools import product

from poleribbons.dances import Dance
from poleribbons.errors import NoRibbon, NoRing
from poleribbons.layers import hangs, lots_of
from poleribbons.rings import is_ring, is_way, knots, links_of, loop_of, ring_of, way_between
from poleribbons.rules import Rule
from poleribbons.words import Word
from cloths import BIG_DANCES, DANCES, NO_RIBBONS, all_ribbons, arrows, swapped
from samples import ODD_VALUES, RULES

KNOT = Dance(1, 1, 2, Rule.by("rounds", Word("", "01")))
CHESS = Dance(2, 2, 1, RULES[13])
SUNS_FIRST = Dance(2, 3, 2, Rule.always(True))


def least_ways(dance, start, ends):
    """The shortest ways from start to the end of one of those ribbons, by trying all, ascending."""
    above = arrows(dance)
    ways = [[start]]
    for _ in all_ribbons(dance):
        found = sorted(way for way in ways if way[-1] in ends)
        if found:
            return found
        ways = [way + [b] for way in ways for a, b in above if a == way[-1] and b not in way]
    return []


class Ways(unittest.TestCase):
    def test_is_way(self):
        for dance in DANCES:
            above = arrows(dance)
            for many in (1, 2, 3):
                for some in list(product(all_ribbons(dance), repeat=many))[:60]:
                    expected = all(pair in above for pair in zip(some, some[1:]))
                    self.assertIs(is_way(dance, list(some)), expected)

    def test_one_ribbon_by_itself_is_a_way_and_none_is_not(self):
        for dance in DANCES:
            for ribbon in all_ribbons(dance):
                self.assertIs(is_way(dance, [ribbon]), True)
            self.assertIs(is_way(dance, []), False)

    def test_a_ribbon_may_stand_in_it_twice(self):
        sun, moon = ("sun", 0), ("moon", 0)
        self.assertIs(is_way(KNOT, [sun, moon] * 1500), True)
        self.assertIs(is_way(KNOT, [sun, moon] * 1500 + [moon]), False)
        self.assertIs(is_way(KNOT, [sun, sun]), False)

    def test_is_way_and_is_ring_with_other_values(self):
        for dance in (KNOT, CHESS):
            ring = ring_of(dance)
            for thing in ODD_VALUES + [tuple(ring), {ribbon: 0 for ribbon in ring}, set(ring), [ring], ring[0]]:
                self.assertIs(is_way(dance, thing), False)
                self.assertIs(is_ring(dance, thing), False)
            for thing in NO_RIBBONS:
                for put in ([thing], ring + [thing], [thing] + ring, [ring[0], thing] + ring[1:]):
                    self.assertIs(is_way(dance, put), False)
                    self.assertIs(is_ring(dance, put), False)

    def test_way_between_is_the_least_of_the_shortest(self):
        for dance in DANCES + BIG_DANCES[2:6]:
            for one, other in list(product(all_ribbons(dance), repeat=2))[:80]:
                found = least_ways(dance, one, [other])
                self.assertEqual(way_between(dance, one, other), found[0] if found else None)

    def test_way_between_one_and_the_same(self):
        for dance in (KNOT, CHESS, SUNS_FIRST):
            for ribbon in all_ribbons(dance):
                self.assertEqual(way_between(dance, ribbon, ribbon), [ribbon])

    def test_loop_of_is_the_least_of_the_shortest(self):
        for dance in DANCES + BIG_DANCES[2:]:
            for ribbon in all_ribbons(dance):
                ends = [one for one, other in arrows(dance) if other == ribbon]
                found = least_ways(dance, ribbon, ends)
                self.assertEqual(loop_of(dance, ribbon), found[0] if found else None)

    def test_loops_as_they_are(self):
        self.assertEqual(loop_of(KNOT, ("sun", 0)), [("sun", 0), ("moon", 0)])
        self.assertIsNone(loop_of(SUNS_FIRST, ("sun", 0)))
        self.assertIsNone(loop_of(SUNS_FIRST, ("moon", 0)))
        self.assertEqual(loop_of(CHESS, ("sun", 0)), [("sun", 0), ("moon", 1), ("sun", 1), ("moon", 0)])

    def test_no_ribbon_tells_the_very_value(self):
        asked = [loop_of, lambda dance, thing: way_between(dance, thing, ("sun", 0)),
                 lambda dance, thing: way_between(dance, ("sun", 0), thing)]
        for ask, thing in product(asked, NO_RIBBONS):
            with self.assertRaises(NoRibbon) as context:
                ask(SUNS_FIRST, thing)
            self.assertIs(context.exception.ribbon, thing)

    def test_no_ribbon_of_one_ahead_of_other(self):
        for one, other in [(("sun", 2), ["sun", 0]), (["sun", 0], ("sun", 2))]:
            with self.assertRaises(NoRibbon) as context:
                way_between(SUNS_FIRST, one, other)
            self.assertIs(context.exception.ribbon, one)


class Rings(unittest.TestCase):
    def is_ring(self, dance, ring):
        """Whether ribbons are a ring, told by hand."""
        above = arrows(dance)
        return set(ring) == set(all_ribbons(dance)) and all(pair in above for pair in zip(ring, ring[1:] + ring[:1]))

    def test_ring_of_is_a_ring_no_longer_than_it_may_be(self):
        for dance in DANCES + BIG_DANCES:
            ring = ring_of(dance)
            if ring is not None:
                self.assertTrue(self.is_ring(dance, ring))
                self.assertIs(is_ring(dance, ring), True)
                self.assertLessEqual(len(ring), (dance.suns + dance.moons) ** 2)

    def test_just_where_there_is_no_lot(self):
        # Promise 7.
        for dance in DANCES + BIG_DANCES:
            self.assertIs(ring_of(dance) is None, lots_of(dance) != [])
            self.assertIs(ring_of(dance) is None, not hangs(dance))

    def test_is_ring(self):
        for dance in DANCES:
            many = dance.suns + dance.moons
            for some in list(product(all_ribbons(dance), repeat=min(many, 4)))[::3]:
                self.assertIs(is_ring(dance, list(some)), self.is_ring(dance, list(some)))

    def test_a_ring_turned_or_twice_is_a_ring(self):
        for dance in DANCES + BIG_DANCES[2:6]:
            ring = ring_of(dance)
            if ring is not None:
                self.assertIs(is_ring(dance, ring[1:] + ring[:1]), True)
                self.assertIs(is_ring(dance, ring * 3), True)

    def test_a_ring_with_something_put_otherwise(self):
        ring = ring_of(CHESS)
        self.assertEqual(len(ring), 4)
        for n in range(4):
            self.assertIs(is_ring(CHESS, ring[:n] + ring[n + 1:]), False)
            self.assertIs(is_ring(CHESS, ring[:n] + [ring[n], ring[n]] + ring[n + 1:]), False)
        self.assertIs(is_ring(CHESS, ring[::-1]), False)
        self.assertIs(is_ring(CHESS, ring + ring[:1]), False)
        self.assertIs(is_ring(CHESS, []), False)
        self.assertIs(is_ring(SUNS_FIRST, all_ribbons(SUNS_FIRST)), False)

    def test_more_rounds_and_the_sides_exchanged(self):
        # Promises 8 and 10.
        for dance in DANCES:
            ring = ring_of(dance)
            if ring is not None:
                self.assertIs(is_ring(Dance(dance.suns, dance.moons, dance.rounds + 3, dance.rule), ring), True)
                self.assertIs(is_ring(dance.swapped(), [swapped(ribbon) for ribbon in ring]), True)
            self.assertEqual(sorted((j, i) for i, j in knots(dance)), knots(dance.swapped()))
            for one, other in product(all_ribbons(dance), repeat=2):
                way = way_between(dance, one, other)
                turned = way_between(dance.swapped(), swapped(one), swapped(other))
                self.assertIs(way is None, turned is None)
                if way is not None:
                    self.assertEqual(len(way), len(turned))

    def test_knots(self):
        for dance in DANCES + BIG_DANCES:
            above = arrows(dance)
            pairs = [(i, j) for i in range(dance.suns) for j in range(dance.moons)]
            expected = [(i, j) for i, j in pairs
                        if (("sun", i), ("moon", j)) in above and (("moon", j), ("sun", i)) in above]
            self.assertEqual(knots(dance), expected)

    def test_links_are_the_least_meetings(self):
        for dance in DANCES + BIG_DANCES:
            ring = ring_of(dance)
            for passed in [ring, ring[1:] + ring[:1], ring * 2] if ring else []:
                links = links_of(dance, passed)
                self.assertEqual(len(links), len(passed))
                for one, other, link in zip(passed, passed[1:] + passed[:1], links):
                    self.assertEqual(link, self.least_link(dance, one, other))

    def least_link(self, dance, one, other):
        sun, moon = (one, other) if one[0] == "sun" else (other, one)
        return min(meeting for meeting in dance.meetings() if meeting[1:] == (sun[1], moon[1])
                   and dance.above(meeting) is (one[0] == "sun"))

    def test_no_ring_tells_the_very_value(self):
        ring = ring_of(CHESS)
        for thing in ODD_VALUES + [ring[::-1], ring[1:], ring + ring[:1], tuple(ring), [], ring + [["sun", 0]],
                                   ring + [None], [ring], all_ribbons(CHESS)]:
            with self.assertRaises(NoRing) as context:
                links_of(CHESS, thing)
            self.assertIs(context.exception.ring, thing)
        for thing in (all_ribbons(SUNS_FIRST), [("sun", 0)], [("sun", 0), ("moon", 0)]):
            with self.assertRaises(NoRing) as context:
                links_of(SUNS_FIRST, thing)
            self.assertIs(context.exception.ring, thing)


class Asking(unittest.TestCase):
    def test_twice_tells_the_same_in_new_lists(self):
        dance = Dance(2, 3, 2, RULES[13])
        ring = ring_of(dance)
        asked = [lambda: ring_of(dance), lambda: way_between(dance, ("sun", 0), ("sun", 1)),
                 lambda: way_between(dance, ("sun", 0), ("sun", 0)), lambda: loop_of(dance, ("sun", 0)),
                 lambda: knots(dance), lambda: links_of(dance, ring)]
        for ask in asked:
            first = ask()
            kept = list(first)
            first.clear()
            self.assertEqual(ask(), kept)
            self.assertNotEqual(kept, [])

    def test_what_is_passed_stays_as_it_was(self):
        ring = ring_of(CHESS)
        for thing in (ring, ring[::-1], ring + [["sun", 0]]):
            before = list(thing)
            is_way(CHESS, thing)
            is_ring(CHESS, thing)
            self.assertEqual(thing, before)
        links_of(CHESS, ring)
        self.assertEqual(ring, ring_of(CHESS))


if __name__ == "__main__":
    unittest.main()
