import unittest
from itertools import combinations, product

from poleribbons.dances import Dance
from poleribbons.errors import NoMeeting, NoSlip
from poleribbons.layers import hangs
from poleribbons.ribbons import are_crossings, crossings
from poleribbons.rules import Rule
from poleribbons.slips import harm, slip_of, slipped, to_undo, undo_many
from poleribbons.words import Word
from cloths import DANCES, SIZES
from samples import LONG, ODD_VALUES, RULES

RULE, YES = RULES[13], Rule.always(True)
NO_MEETINGS = ODD_VALUES + [(2, 0, 0), (0, 2, 0), (0, 0, 3), (-1, 0, 0), (0, -1, 0), (0, 0, -1), [0, 0, 0], (0, 0),
                            (True, 0, 0), (0, False, 0), (0, 0, True), ((0, 0, 0),), (LONG, 0, 0), (0, 0, LONG)]


def turned(laid, meeting):
    """Crossings with one bit turned about."""
    r, i, j = meeting
    bits = list(laid[i, j])
    bits[r] = {"0": "1", "1": "0"}[bits[r]]
    return {**laid, (i, j): "".join(bits)}


def is_whole(laid):
    """Whether a cloth of these crossings hangs together, by all steps between its ribbons."""
    arrows = set()
    for (i, j), text in laid.items():
        arrows |= {(("sun", i), ("moon", j))} if "1" in text else set()
        arrows |= {(("moon", j), ("sun", i))} if "0" in text else set()
    names = sorted({ribbon for arrow in arrows for ribbon in arrow})
    for middle, one, other in product(names, repeat=3):
        if (one, middle) in arrows and (middle, other) in arrows:
            arrows.add((one, other))
    return all(pair in arrows for pair in product(names, repeat=2) if pair[0] != pair[1])


class Slipped(unittest.TestCase):
    def test_there_and_back(self):
        for dance in DANCES:
            laid = crossings(dance)
            for meeting in dance.meetings():
                found = slipped(dance, meeting)
                self.assertEqual(found, turned(laid, meeting))
                self.assertEqual(list(found), sorted(found))
                self.assertIs(are_crossings(found), True)
                self.assertEqual(slip_of(dance, found), meeting)
                self.assertEqual(slip_of(dance, dict(reversed(list(found.items())))), meeting)
            self.assertEqual(crossings(dance), laid)

    def test_no_meeting_tells_the_very_value(self):
        dance = Dance(2, 3, 2, RULE)
        for thing in NO_MEETINGS:
            with self.assertRaises(NoMeeting) as context:
                slipped(dance, thing)
            self.assertIs(context.exception.meeting, thing)

    def no_slip(self, dance, thing):
        with self.assertRaises(NoSlip) as context:
            slip_of(dance, thing)
        self.assertIs(context.exception.thing, thing)

    def test_none_or_two_meetings_turned_about(self):
        for dance in DANCES[::7]:
            laid = crossings(dance)
            self.no_slip(dance, laid)
            for one, other in combinations(dance.meetings(), 2):
                self.no_slip(dance, turned(turned(laid, one), other))
        dance = Dance(3, 3, 2, YES)
        self.no_slip(dance, crossings(Dance(3, 3, 2, ~YES)))

    def test_crossings_of_other_numbers(self):
        sizes = [(2, 3, 2), (3, 2, 2), (2, 3, 1), (2, 3, 3), (1, 3, 2), (2, 2, 2), (6, 1, 2), (1, 6, 2), (3, 3, 2)]
        for one, other in product(sizes, repeat=2):
            for meeting in [(0, 0, 0), (0, 0, 1)][:other[1]]:
                thing = slipped(Dance(*other, RULE), meeting)
                if one != other:
                    self.no_slip(Dance(*one, RULE), thing)
                else:
                    self.assertEqual(slip_of(Dance(*one, RULE), thing), meeting)

    def test_other_values(self):
        dance = Dance(2, 2, 1, RULE)
        good = slipped(dance, (0, 1, 0))
        self.assertEqual(slip_of(dance, good), (0, 1, 0))
        for thing in ODD_VALUES:
            self.no_slip(dance, thing)
            self.no_slip(dance, {**good, (0, 0): thing} if thing not in ("0", "1") else thing)
        keys = [(0, 2), (2, 0), (0, -1), (0, 0, 0), 0, None, "00"]
        for key in keys:
            self.no_slip(dance, {**good, key: "1"})
            self.no_slip(dance, {**{pair: text for pair, text in good.items() if pair != (1, 1)}, key: good[1, 1]})
        self.no_slip(dance, {(0, 0): "0", (0, True): "1", (1, 0): "0", (1, 1): "0"})
        self.no_slip(dance, {(False, 0): "0", (0, 1): "1", (1, 0): "0", (1, 1): "0"})
        for text in ["", "2", "00", "01", 0, 1, True, ["0"], None]:
            self.no_slip(dance, {**good, (0, 0): text})
        for thing in [list(good), list(good.items()), set(good), [good], {}]:
            self.no_slip(dance, thing)
        self.no_slip(Dance(1, 1, 2, YES), {(0, 0): "1"})
        self.no_slip(Dance(1, 1, 2, YES), {(0, 0): "110"})
        self.assertEqual(slip_of(Dance(1, 1, 2, YES), {(0, 0): "10"}), (1, 0, 0))

    def test_what_is_passed_stays_and_what_is_returned_is_new(self):
        dance = Dance(2, 2, 2, RULE)
        first = slipped(dance, (1, 0, 1))
        kept = list(first.items())
        slip_of(dance, first)
        self.assertEqual(list(first.items()), kept)
        first.clear()
        self.assertEqual(list(slipped(dance, (1, 0, 1)).items()), kept)


class Undo(unittest.TestCase):
    def expected(self, dance, meetings):
        """These meetings, and those that one of them is ahead of."""
        return [other for other in dance.meetings()
                if any(one == other or dance.ahead(one, other) for one in meetings)]

    def test_by_which_is_ahead(self):
        for s, m, r in SIZES:
            dance = Dance(s, m, r, YES)
            for one in dance.meetings():
                self.assertEqual(to_undo(dance, [one]), self.expected(dance, [one]))
            for pair in product(dance.meetings()[::2], dance.meetings()[1::3]):
                self.assertEqual(to_undo(dance, list(pair)), self.expected(dance, pair))
                self.assertEqual(to_undo(dance, pair), self.expected(dance, pair))

    def test_lists_and_tuples_in_any_order(self):
        dance = Dance(3, 2, 3, RULE)
        self.assertEqual(to_undo(dance, []), [])
        self.assertEqual(to_undo(dance, ()), [])
        self.assertEqual(to_undo(dance, dance.meetings()[::-1]), dance.meetings())
        some = [(2, 1, 1), (1, 2, 0), (2, 1, 1)]
        for thing in (some, tuple(some), some[::-1], some[:2]):
            self.assertEqual(to_undo(dance, thing), self.expected(dance, some))

    def test_no_meeting_of_the_first_that_is_none(self):
        dance = Dance(2, 3, 2, RULE)
        for thing in NO_MEETINGS:
            for meetings in ([thing], (thing,), [(0, 0, 0), thing], ((1, 1, 2), thing, None), [thing, [0]]):
                with self.assertRaises(NoMeeting) as context:
                    to_undo(dance, meetings)
                self.assertIs(context.exception.meeting, thing)

    def test_no_meeting_of_the_whole_value(self):
        dance = Dance(2, 3, 2, RULE)
        others = [{(0, 0, 0)}, {(0, 0, 0): 0}, frozenset([(0, 0, 0)]), iter([(0, 0, 0)]), dance]
        for thing in ODD_VALUES + others:
            if not isinstance(thing, (list, tuple)):
                with self.assertRaises(NoMeeting) as context:
                    to_undo(dance, thing)
                self.assertIs(context.exception.meeting, thing)
        with self.assertRaises(NoMeeting) as context:
            to_undo(dance, (1, 0, 2))
        self.assertEqual(context.exception.meeting, 1)

    def test_undo_many_against_to_undo(self):
        for s, m, r in SIZES + [(4, 5, 4), (8, 3, 2), (1, 8, 5)]:
            dance = Dance(s, m, r, YES)
            for meeting in dance.meetings():
                self.assertEqual(undo_many(s, m, r, meeting), len(to_undo(dance, [meeting])))

    def test_undo_many_of_forty_digits(self):
        # With two rounds or more still to come, each number counts as often as it is great.
        many = 10 ** 38
        cases = [((3, 4, 5), (2, 1, 3)), ((5, 2, 4), (1, 4, 0)), ((2, 2, 3), (0, 1, 1)), ((6, 6, 3), (1, 2, 2))]
        for base, meeting in cases:
            total = 0
            for corner in product((0, 1), repeat=3):
                size = [number + more for number, more in zip(base, corner)]
                share = 1
                for more in corner:
                    share *= many if more else 1 - many
                total += share * len(to_undo(Dance(*size, YES), [meeting]))
            self.assertEqual(undo_many(*[number + many for number in base], meeting), total)

    def test_undo_many_known_by_hand(self):
        n = 10 ** 20
        self.assertEqual(undo_many(n, n, 2, (0, 0, 1)), 2 * n * n - n)
        self.assertEqual(undo_many(LONG, LONG, LONG, (0, 0, 0)), LONG ** 3)
        self.assertEqual(undo_many(LONG, LONG, LONG, (LONG - 1, 0, 0)), LONG ** 2)
        self.assertEqual(undo_many(LONG, LONG, LONG, (LONG - 1, LONG - 1, LONG - 1)), 1)
        self.assertEqual(undo_many(LONG, LONG, LONG, (LONG - 2, LONG - 1, LONG - 1)), 2 + 2 * (LONG - 1))
        self.assertEqual(undo_many(LONG, LONG, 1, (0, LONG - 1, 5)), LONG - 5)

    def test_undo_many_of_no_meeting(self):
        for thing in NO_MEETINGS:
            with self.assertRaises(NoMeeting) as context:
                undo_many(2, 3, 2, thing)
            self.assertIs(context.exception.meeting, thing)
        for thing in [(LONG + 2, 0, 0), (0, LONG, 0), (0, 0, LONG + 1)]:
            with self.assertRaises(NoMeeting) as context:
                undo_many(LONG, LONG + 1, LONG + 2, thing)
            self.assertIs(context.exception.meeting, thing)

    def test_the_sides_exchanged(self):
        # Promise 10.
        for s, m, r in SIZES:
            dance = Dance(s, m, r, RULE)
            for t, i, j in dance.meetings():
                found = [(q, l, k) for q, k, l in to_undo(dance, [(t, i, j)])]
                self.assertEqual(to_undo(dance.swapped(), [(t, j, i)]), sorted(found))
                self.assertEqual(undo_many(m, s, r, (t, j, i)), undo_many(s, m, r, (t, i, j)))

    def test_what_is_passed_stays_as_it_was(self):
        thing = [(1, 1, 1), (0, 1, 0)]
        first = to_undo(Dance(2, 2, 2, RULE), thing)
        self.assertEqual(thing, [(1, 1, 1), (0, 1, 0)])
        kept = list(first)
        first.clear()
        self.assertEqual(to_undo(Dance(2, 2, 2, RULE), thing), kept)


class Harm(unittest.TestCase):
    def test_each_slip_tried(self):
        answers = set()
        for dance in DANCES + [Dance(4, 3, 1, rule) for rule in RULES] + [Dance(3, 3, 2, rule) for rule in RULES]:
            laid = crossings(dance)
            expected = [meeting for meeting in dance.meetings() if is_whole(turned(laid, meeting)) != is_whole(laid)]
            self.assertEqual(harm(dance), expected)
            answers.add((hangs(dance), len(expected) > 0))
        self.assertEqual(len(answers), 4)

    def test_either_way(self):
        # The only round in which the moon's ribbons lie above, and a cloth that one more slip holds together.
        once = Dance(1, 1, 3, Rule.by("rounds", Word("101", "1")))
        self.assertEqual([hangs(once), harm(once)], [True, [(1, 0, 0)]])
        never = Dance(1, 1, 3, YES)
        self.assertEqual([hangs(never), harm(never)], [False, [(0, 0, 0), (1, 0, 0), (2, 0, 0)]])
        self.assertEqual(harm(Dance(2, 2, 1, YES)), [])
        self.assertEqual(harm(Dance(2, 2, 9, Rule.by("rounds", Word("", "10")))), [])

    def test_great_dances(self):
        for rule in RULES[::3]:
            dance = Dance(8, 8, 12, rule)
            laid, whole = crossings(dance), hangs(dance)
            found = harm(dance)
            for meeting in dance.meetings()[::97]:
                self.assertIs(meeting in found, is_whole(turned(laid, meeting)) != whole)

    def test_the_sides_exchanged(self):
        # Promise 10.
        for dance in DANCES:
            self.assertEqual(harm(dance.swapped()), sorted((r, j, i) for r, i, j in harm(dance)))

    def test_asking_twice_tells_the_same(self):
        dance = Dance(2, 2, 1, RULE)
        first = harm(dance)
        kept = list(first)
        self.assertEqual(len(kept), 4)
        first.clear()
        self.assertEqual(harm(dance), kept)


if __name__ == "__main__":
    unittest.main()
