import unittest
from itertools import permutations, product

from poleribbons.dances import Dance
from poleribbons.errors import NoMeeting, Wrong
from poleribbons.rules import Rule
from poleribbons.words import Word
from cloths import BIG_DANCES, DANCES, SIZES
from samples import LONG, ODD_VALUES, RULES

LONG_DANCE = Dance(LONG, LONG + 2, LONG + 4, RULES[13])
PLAIN = [Dance(suns, moons, rounds, RULES[0]) for suns, moons, rounds in SIZES + [(4, 2, 3), (5, 1, 2), (4, 4, 2)]]


def all_meetings(dance):
    return list(product(range(dance.rounds), range(dance.suns), range(dance.moons)))


def next_meetings(dance, meeting):
    """The meetings that the two dancers have next, found among all."""
    r, i, j = meeting
    of_sun = [other for other in all_meetings(dance) if other[1] == i and (other[0], other[2]) > (r, j)]
    of_moon = [other for other in all_meetings(dance) if other[2] == j and (other[0], other[1]) > (r, i)]
    return sorted({min(found) for found in (of_sun, of_moon) if found})


def reached_by_steps(dance):
    """The dict from each meeting to the set of those that steps of `behind` lead to."""
    found = {}
    for meeting in reversed(all_meetings(dance)):
        steps = dance.behind(meeting)
        found[meeting] = set(steps).union(*[found[step] for step in steps])
    return found


class Made(unittest.TestCase):
    def wrong(self, place, *arguments):
        with self.assertRaises(Wrong) as context:
            Dance(*arguments)
        self.assertEqual(context.exception.place, place)

    def test_wrong_tells_the_first_place(self):
        rule = RULES[0]
        for thing in ODD_VALUES:
            if not (type(thing) is int and thing > 0):
                self.wrong(0, thing, 1, 1, rule)
                self.wrong(1, 1, thing, 1, rule)
                self.wrong(2, 1, 1, thing, rule)
                self.wrong(0, thing, thing, thing, thing)
                self.wrong(1, 1, thing, thing, thing)
                self.wrong(2, 1, 1, thing, thing)
            if not isinstance(thing, Rule):
                self.wrong(3, 1, 1, 1, thing)
        for place in range(3):
            for thing in (0, -1, True, "1", None):
                arguments = [2, 3, 4, rule]
                arguments[place] = thing
                self.wrong(place, *arguments)
        self.wrong(3, 2, 3, 4, rule.parts())

    def test_properties(self):
        for s, m, r in [(1, 2, 3), (LONG, 1, LONG + 1)]:
            dance = Dance(s, m, r, RULES[2])
            self.assertEqual([dance.suns, dance.moons, dance.rounds], [s, m, r])
            self.assertEqual(dance.rule, RULES[2])
            self.assertIsInstance(dance.rule, Rule)

    def test_equal_if_all_four_are(self):
        kinds = [(2, 3, 4, RULES[2]), (3, 2, 4, RULES[2]), (2, 4, 3, RULES[2]), (2, 3, 5, RULES[2]),
                 (2, 3, 4, RULES[3]), (2, 3, 4, ~~RULES[2]), (1, 3, 4, RULES[2]), (2, 1, 4, RULES[2])]
        for m, one in enumerate(kinds):
            for n, other in enumerate(kinds):
                self.assertIs(Dance(*one) == Dance(*other), m == n)
                self.assertIs(Dance(*one) != Dance(*other), m != n)
        self.assertIs(Dance(2, 3, 4, Rule.by("turns", Word("", "10"))) == Dance(2, 3, 4, RULES[2]), True)

    def test_equal_to_nothing_else(self):
        dance = Dance(2, 3, 4, RULES[2])
        for thing in [None, 0, (2, 3, 4, RULES[2]), [2, 3, 4, RULES[2]], RULES[2], {}, "", object()]:
            self.assertIs(dance == thing, False)
            self.assertIs(thing == dance, False)
            self.assertIs(dance != thing, True)


class Meetings(unittest.TestCase):
    def test_all_ascending(self):
        for dance in PLAIN:
            self.assertEqual(dance.meetings(), all_meetings(dance))
            self.assertEqual(dance.size(), len(all_meetings(dance)))
        self.assertEqual(Dance(2, 1, 2, RULES[0]).meetings(), [(0, 0, 0), (0, 1, 0), (1, 0, 0), (1, 1, 0)])

    def test_size_of_any_length(self):
        self.assertEqual(LONG_DANCE.size(), LONG * (LONG + 2) * (LONG + 4))

    def test_is_meeting(self):
        dance = Dance(3, 4, 2, RULES[0])
        for thing in product(range(-1, 4), range(-1, 5), range(-1, 6)):
            r, i, j = thing
            self.assertIs(dance.is_meeting(thing), 0 <= r < 2 and 0 <= i < 3 and 0 <= j < 4)

    def test_what_is_no_meeting(self):
        dance = Dance(2, 3, 2, RULES[0])
        for thing in self.no_meetings():
            self.assertIs(dance.is_meeting(thing), False)

    def no_meetings(self):
        return ODD_VALUES + [
            (2, 0, 0), (0, 2, 0), (0, 0, 3), (-1, 0, 0), (0, -1, 0), (0, 0, -1), (LONG, 0, 0), (0, LONG, 0),
            (0, 0, LONG), [0, 0, 0], (0, 0), (0, 0, 0, 0), ((0, 0, 0),), (True, 0, 0), (0, True, 0), (0, 0, True),
            (False, 0, 0), (0, False, 0), (0, 0, False), ("0", 0, 0), (0, None, 0), (0, 0, (0,)), (0, 0, []),
            "000", {0: 0, 1: 0, 2: 0}, {(0, 0, 0): 0}, {0}, [(0, 0, 0)], (0, (0, 0)), ()]

    def test_no_meeting_tells_the_very_value(self):
        dance = Dance(2, 3, 2, RULES[0])
        for thing in self.no_meetings():
            for asked in (dance.above, dance.counts, dance.behind, dance.level,
                          lambda value: dance.ahead(value, (0, 0, 0)), lambda value: dance.ahead((0, 0, 0), value)):
                with self.assertRaises(NoMeeting) as context:
                    asked(thing)
                self.assertIs(context.exception.meeting, thing)

    def test_no_meeting_of_one_ahead_of_other(self):
        dance = Dance(2, 3, 2, RULES[0])
        one, other = (2, 0, 0), [0, 0, 0]
        for first, second in [(one, other), (other, one), (one, one)]:
            with self.assertRaises(NoMeeting) as context:
                dance.ahead(first, second)
            self.assertIs(context.exception.meeting, first)

    def test_meetings_of_any_length(self):
        greatest = (LONG + 3, LONG - 1, LONG + 1)
        self.assertIs(LONG_DANCE.is_meeting(greatest), True)
        self.assertIs(LONG_DANCE.is_meeting((0, 0, 0)), True)
        for place in range(3):
            thing = tuple(n + (k == place) for k, n in enumerate(greatest))
            self.assertIs(LONG_DANCE.is_meeting(thing), False)
            with self.assertRaises(NoMeeting):
                LONG_DANCE.level(thing)


class Told(unittest.TestCase):
    def test_above_is_what_the_rule_tells(self):
        for dance in DANCES + BIG_DANCES[::7]:
            for r, i, j in all_meetings(dance):
                self.assertIs(dance.above((r, i, j)), dance.rule(r, i, j, dance.suns, dance.moons))

    def test_above_for_numbers_of_any_length(self):
        for rule in RULES:
            dance = Dance(LONG, LONG + 2, LONG + 4, rule)
            for meeting in [(0, 0, 0), (LONG, 5, LONG), (LONG + 3, LONG - 1, LONG + 1)]:
                self.assertIs(dance.above(meeting), rule(*meeting, LONG, LONG + 2))

    def test_counts_count_the_meetings_of_each_dancer(self):
        for dance in PLAIN:
            had = {}
            for r, i, j in all_meetings(dance):
                expected = (had.get(("sun", i), 0), had.get(("moon", j), 0))
                self.assertEqual(dance.counts((r, i, j)), expected)
                had["sun", i], had["moon", j] = expected[0] + 1, expected[1] + 1
        self.assertEqual(LONG_DANCE.counts((LONG, 3, 4)), (LONG * (LONG + 2) + 4, LONG * LONG + 3))

    def test_behind(self):
        for dance in PLAIN:
            for meeting in all_meetings(dance):
                self.assertEqual(dance.behind(meeting), next_meetings(dance, meeting))
        self.assertEqual(Dance(1, 1, 2, RULES[0]).behind((0, 0, 0)), [(1, 0, 0)])
        self.assertEqual(Dance(1, 1, 1, RULES[0]).behind((0, 0, 0)), [])
        self.assertEqual(Dance(1, 3, 2, RULES[0]).behind((0, 0, 1)), [(0, 0, 2), (1, 0, 1)])
        self.assertEqual(Dance(3, 1, 1, RULES[0]).behind((0, 1, 0)), [(0, 2, 0)])

    def test_behind_for_numbers_of_any_length(self):
        last = (LONG + 3, LONG - 1, LONG + 1)
        self.assertEqual(LONG_DANCE.behind(last), [])
        self.assertEqual(LONG_DANCE.behind((7, LONG - 1, LONG + 1)), [(8, 0, LONG + 1), (8, LONG - 1, 0)])
        self.assertEqual(LONG_DANCE.behind((LONG, 2, LONG)), [(LONG, 2, LONG + 1), (LONG, 3, LONG)])
        self.assertEqual(LONG_DANCE.behind((LONG + 3, 2, LONG + 1)), [(LONG + 3, 3, LONG + 1)])

    def test_ahead_are_those_that_steps_lead_to(self):
        for dance in PLAIN:
            found = reached_by_steps(dance)
            for one, other in product(all_meetings(dance), repeat=2):
                self.assertIs(dance.ahead(one, other), other in found[one])

    def test_none_is_ahead_of_itself(self):
        for dance in PLAIN:
            for meeting in all_meetings(dance):
                self.assertIs(dance.ahead(meeting, meeting), False)

    def test_ahead_for_numbers_of_any_length(self):
        r = LONG
        answers = [((r, 5, 5), (r, 5, 6), True), ((r, 5, 6), (r, 5, 5), False), ((r, 5, 5), (r, 5, 5), False),
                   ((r, 5, 5), (r + 1, 4, 5), True), ((r, 5, 5), (r + 1, 4, 4), False),
                   ((r, LONG - 1, LONG), (r + 2, 0, 0), True), ((0, LONG - 1, LONG + 1), (1, 0, 0), False),
                   ((r, 5, 5), (r, 6, 4), False), ((r + 1, 0, 0), (r, 9, 9), False),
                   ((0, 0, 0), (LONG, LONG - 1, LONG), True)]
        for one, other, expected in answers:
            self.assertIs(LONG_DANCE.ahead(one, other), expected)

    def test_level_is_the_longest_row_ahead(self):
        for dance in PLAIN:
            longest = {meeting: 0 for meeting in all_meetings(dance)}
            for meeting in all_meetings(dance):
                for step in dance.behind(meeting):
                    longest[step] = max(longest[step], longest[meeting] + 1)
            for meeting in all_meetings(dance):
                self.assertEqual(dance.level(meeting), longest[meeting])

    def test_level_for_numbers_of_any_length(self):
        self.assertEqual(LONG_DANCE.level((LONG, 4, LONG)), LONG * (LONG + 2) + 4 + LONG)
        self.assertEqual(LONG_DANCE.swapped().level((LONG, LONG, 4)), LONG * (LONG + 2) + 4 + LONG)

    def test_levels_hold_the_meetings_of_each_level(self):
        for dance in PLAIN + BIG_DANCES[:1]:
            levels = dance.levels()
            self.assertEqual(sorted(sum(levels, [])), all_meetings(dance))
            for number, level in enumerate(levels):
                self.assertEqual(level, [m for m in all_meetings(dance) if dance.level(m) == number])
                self.assertNotEqual(level, [])


class Orders(unittest.TestCase):
    def test_just_those_in_which_the_meetings_can_take_place(self):
        for s, m, r in [(1, 1, 3), (2, 2, 1), (1, 3, 2), (2, 1, 3), (2, 3, 1)]:
            dance = Dance(s, m, r, RULES[0])
            found = reached_by_steps(dance)
            for order in permutations(all_meetings(dance)):
                place = {meeting: n for n, meeting in enumerate(order)}
                expected = all(place[one] < place[other] for one in place for other in found[one])
                self.assertIs(dance.is_order(list(order)), expected)

    def test_meetings_and_levels_are_orders(self):
        for dance in PLAIN + BIG_DANCES[:1]:
            self.assertIs(dance.is_order(dance.meetings()), True)
            self.assertIs(dance.is_order(sum(dance.levels(), [])), True)

    def test_orders_with_something_put_otherwise(self):
        dance = Dance(3, 2, 2, RULES[0])
        order = dance.meetings()
        for n in range(len(order)):
            self.assertIs(dance.is_order(order[:n] + order[n + 1:]), False)
            self.assertIs(dance.is_order(order[:n] + order[n:n + 1] + order[n:]), False)
            self.assertIs(dance.is_order(order[:n] + order[:1] + order[n + 1:]), n == 0)
            for thing in (list(order[n]), None, (0, 0), (0, 0, True), (2, 0, 0), [order[n]]):
                self.assertIs(dance.is_order(order[:n] + [thing] + order[n + 1:]), False)
        for n in range(len(order) - 1):
            exchanged = order[:n] + [order[n + 1], order[n]] + order[n + 2:]
            self.assertIs(dance.is_order(exchanged), not dance.ahead(order[n], order[n + 1]))
        self.assertIs(dance.is_order(order[::-1]), False)
        self.assertIs(dance.is_order(order + [(2, 0, 0)]), False)

    def test_other_values(self):
        dance = Dance(2, 2, 1, RULES[0])
        order = dance.meetings()
        others = [tuple(order), [order], {meeting: 0 for meeting in order}, set(order), [[], [], [], []]]
        for thing in ODD_VALUES + others:
            self.assertIs(dance.is_order(thing), False)
        self.assertIs(Dance(1, 1, 1, RULES[0]).is_order([(0, 0, 0)]), True)
        self.assertIs(Dance(1, 1, 1, RULES[0]).is_order([(0, 0, False)]), False)


class Whole(unittest.TestCase):
    def test_swapped(self):
        for dance in DANCES[::3]:
            other = dance.swapped()
            self.assertEqual(other, Dance(dance.moons, dance.suns, dance.rounds, dance.rule.swapped()))
            for r, i, j in all_meetings(dance):
                self.assertIs(other.above((r, j, i)), not dance.above((r, i, j)))
                self.assertEqual(other.counts((r, j, i)), dance.counts((r, i, j))[::-1])
                self.assertEqual(other.level((r, j, i)), dance.level((r, i, j)))
                self.assertEqual(other.behind((r, j, i)), sorted((q, l, k) for q, k, l in dance.behind((r, i, j))))
            for (r, i, j), (s, k, l) in product(all_meetings(dance)[:9], all_meetings(dance)):
                self.assertIs(other.ahead((r, j, i), (s, l, k)), dance.ahead((r, i, j), (s, k, l)))
            self.assertIs(other.is_order([(r, j, i) for r, i, j in sum(dance.levels(), [])]), True)
        swapped = LONG_DANCE.swapped()
        self.assertEqual([swapped.suns, swapped.moons, swapped.rounds], [LONG + 2, LONG, LONG + 4])
        self.assertIs(swapped.above((LONG, 5, 6)), not LONG_DANCE.above((LONG, 6, 5)))

    def test_what_is_returned_is_new(self):
        dance = Dance(2, 2, 2, RULES[13])
        for asked in (dance.meetings, dance.levels, lambda: dance.behind((0, 0, 0))):
            first = asked()
            kept = [list(item) if isinstance(item, list) else item for item in first]
            if isinstance(first[0], list):
                self.assertEqual(len({id(level) for level in first}), len(first))
                for level in first:
                    level.clear()
            first.clear()
            self.assertEqual(asked(), kept)

    def test_what_is_passed_stays_as_it_was(self):
        dance = Dance(2, 2, 2, RULES[13])
        order = dance.meetings()
        for thing in (order, order[:-1], order[::-1], [[0, 0, 0]] * 8):
            before = [list(item) for item in thing]
            dance.is_order(thing)
            self.assertEqual([list(item) for item in thing], before)
        same = Dance(2, 2, 2, RULES[13])
        self.assertEqual(dance, same)
        self.assertEqual(RULES[13].parts(), ("unlike", ("turns", "", "10"), ("suns", "", "10")))


if __name__ == "__main__":
    unittest.main()
