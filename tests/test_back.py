import unittest
from itertools import product

from poleribbons.back import are_reasons, danced_back, is_left, left_many, reasons, what_is_left
from poleribbons.dances import Dance
from poleribbons.errors import NoMeeting
from poleribbons.heaps import Heap, heap_of
from poleribbons.rules import Rule
from poleribbons.words import Word
from cloths import SIZES
from samples import FORALL_RULES, LONG, ODD_VALUES, RULES, moons, suns, turns

RULE, NO, YES = RULES[13], Rule.always(False), Rule.always(True)
LAST = Rule.by("rounds", Word("00", "1"))
ONE_MEETING = Rule.by("rounds", Word("01", "0")) & suns("01", "0") & moons("01", "0")
PAIRS = [(one, other) for at, one in enumerate(RULES) for other in RULES[at % 3::3]]
FORALL_PAIRS = [(one, other) for at, one in enumerate(FORALL_RULES) for other in FORALL_RULES[at % 4::4]
                if max(one.lead, other.lead) <= 2 and (one ^ other).period <= 4]
LESS_PAIRS = [(YES, LAST), (NO, NO), (NO, ONE_MEETING), (YES, NO), (RULE, turns("", "10")), (NO, suns("", "10")),
              (NO, moons("01", "0") & suns("1", "0")), (turns("", "100"), NO), (turns("", "10"), turns("1", "01")),
              (NO, suns("0", "1") & moons("", "10") & Rule.by("rounds", Word("01", "0")))]


def unlike(dance, rule):
    """The meetings at which two rules lay otherwise, read off the rules themselves."""
    numbers = (dance.suns, dance.moons)
    return [meeting for meeting in dance.meetings() if dance.rule(*meeting, *numbers) != rule(*meeting, *numbers)]


def expected_reasons(dance, rule):
    """All meetings that are left, each with the least reason, found by which is ahead of which."""
    causes = unlike(dance, rule)
    found = {}
    for meeting in dance.meetings():
        behind = [cause for cause in causes if cause == meeting or dance.ahead(meeting, cause)]
        if behind:
            found[meeting] = min(behind)
    return found


def dances_back():
    for number, (one, other) in enumerate(PAIRS):
        s, m, r = SIZES[number % len(SIZES)]
        yield Dance(s, m, r, one), other
    for one, other in LESS_PAIRS:
        for size in SIZES + [(4, 3, 4)]:
            yield Dance(*size, one), other


class Small(unittest.TestCase):
    def test_what_is_left_and_reasons_by_which_is_ahead(self):
        for dance, rule in dances_back():
            expected = expected_reasons(dance, rule)
            self.assertEqual(what_is_left(dance, rule), list(expected))
            found = reasons(dance, rule)
            self.assertEqual(found, expected)
            self.assertEqual(list(found), sorted(found))

    def test_known_by_hand(self):
        self.assertEqual(what_is_left(Dance(3, 3, 3, RULE), RULE ^ NO), [])
        self.assertEqual(reasons(Dance(3, 3, 3, RULE), RULE ^ NO), {})
        self.assertEqual(what_is_left(Dance(2, 2, 3, NO), ONE_MEETING),
                         [(0, 0, 0), (0, 0, 1), (0, 1, 0), (0, 1, 1), (1, 0, 0), (1, 0, 1), (1, 1, 0), (1, 1, 1)])
        self.assertEqual(what_is_left(Dance(3, 3, 3, NO), ONE_MEETING)[-4:],
                         [(1, 0, 0), (1, 0, 1), (1, 1, 0), (1, 1, 1)])
        self.assertNotIn((0, 2, 2), what_is_left(Dance(3, 3, 3, NO), ONE_MEETING))
        self.assertEqual(reasons(Dance(1, 2, 2, YES), turns("", "1110")),
                         {(0, 0, 0): (1, 0, 1), (0, 0, 1): (1, 0, 1), (1, 0, 0): (1, 0, 1), (1, 0, 1): (1, 0, 1)})

    def test_great_dances(self):
        for one, other in LESS_PAIRS[:5]:
            dance = Dance(8, 8, 12, one)
            causes = unlike(dance, other)
            found = reasons(dance, other)
            if causes:
                self.assertEqual(found[0, 0, 0], min(causes))
            self.assertLessEqual(set(causes), set(found))
            self.assertIs(are_reasons(dance, other, found), True)

    def test_danced_back_has_two_pieces_for_each_meeting_left(self):
        for dance, rule in dances_back():
            heap = danced_back(dance, rule)
            left = what_is_left(dance, rule)
            self.assertEqual(len(heap), 2 * len(left))
            laid = [(i, j, dance.above((r, i, j)), True) for r, i, j in left]
            taken = [(i, j, rule(r, i, j, dance.suns, dance.moons), False) for r, i, j in left[::-1]]
            self.assertEqual(heap, Heap(laid + taken))
            self.assertEqual(heap, heap_of(dance) * ~heap_of(Dance(dance.suns, dance.moons, dance.rounds, rule)))

    def test_danced_back_in_any_order(self):
        # Promise 9: laid in one order in which the meetings can take place, taken off in another one.
        for dance, rule in list(dances_back())[::3]:
            numbers = (dance.suns, dance.moons)
            orders = [dance.meetings(), sum(dance.levels(), []), sum([row[::-1] for row in dance.levels()], [])]
            for one, other in product(orders, repeat=2):
                laid = [(i, j, dance.rule(r, i, j, *numbers), True) for r, i, j in one]
                taken = [(i, j, rule(r, i, j, *numbers), False) for r, i, j in other[::-1]]
                self.assertEqual(Heap(laid + taken), danced_back(dance, rule))

    def test_danced_back_by_its_own_rule(self):
        for rule in RULES:
            self.assertEqual(list(danced_back(Dance(3, 4, 3, rule), rule)), [])

    def test_are_reasons(self):
        for dance, rule in dances_back():
            if dance.size() > 12:
                continue
            found = expected_reasons(dance, rule)
            causes = unlike(dance, rule)
            self.assertIs(are_reasons(dance, rule, found), True)
            self.assertIs(are_reasons(dance, rule, dict(reversed(list(found.items())))), True)
            for meeting, other in product(found, dance.meetings()):
                thing = dict(found)
                thing[meeting] = other
                expected = other in causes and (other == meeting or dance.ahead(meeting, other))
                self.assertIs(are_reasons(dance, rule, thing), expected)
            for meeting in dance.meetings():
                thing = dict(found)
                if meeting in thing:
                    del thing[meeting]
                else:
                    thing[meeting] = causes[0] if causes else meeting
                self.assertIs(are_reasons(dance, rule, thing), False)

    def test_are_reasons_with_values_of_any_kind(self):
        dance, rule = Dance(2, 2, 1, RULE), NO
        found = {(0, 0, 0): (0, 0, 1), (0, 0, 1): (0, 0, 1), (0, 1, 0): (0, 1, 0)}
        self.assertIs(are_reasons(dance, rule, found), True)
        self.assertIs(are_reasons(dance, rule, {**found, (0, 0, 0): (0, 1, 0)}), True)
        for thing in ODD_VALUES:
            self.assertIs(are_reasons(dance, rule, thing), False)
            self.assertIs(are_reasons(dance, rule, {**found, (0, 0, 1): thing}), False)
            self.assertIs(are_reasons(dance, RULE, thing), thing == {} and type(thing) is dict)
        for key in [None, 0, "", (0, 0), (0, 1, 1), (1, 0, 0), (0, 0, 2), (0, -1, 0), frozenset(), (0, 0, 0, 0), b""]:
            self.assertIs(are_reasons(dance, rule, {**found, key: (0, 0, 1)}), False)
            self.assertIs(are_reasons(dance, RULE, {key: (0, 0, 1)}), False)
        truths = {(0, 0, False): (0, 0, 1), (0, 0, 1): (0, 0, 1), (0, 1, 0): (0, 1, 0)}
        self.assertEqual(truths, found)
        self.assertIs(are_reasons(dance, rule, truths), False)
        for value in [(0, 0, True), (False, 0, 1), [0, 0, 1], (0, 0), (0, 0, 1, 0), (0, 1, 1), (1, 0, 1), (0, 0, 0)]:
            self.assertIs(are_reasons(dance, rule, {**found, (0, 0, 1): value}), False)
        for thing in [list(found), list(found.items()), tuple(found), set(found), [found]]:
            self.assertIs(are_reasons(dance, rule, thing), False)

    def test_what_is_returned_is_new_and_what_is_passed_stays(self):
        dance = Dance(2, 2, 2, RULE)
        for ask in (lambda: what_is_left(dance, NO), lambda: reasons(dance, NO)):
            first = ask()
            kept = first.copy()
            self.assertGreater(len(first), 0)
            first.clear()
            self.assertEqual(ask(), kept)
        thing = reasons(dance, NO)
        before = list(thing.items())
        are_reasons(dance, NO, thing)
        self.assertEqual(list(thing.items()), before)
        self.assertEqual(list(danced_back(dance, NO)), list(danced_back(dance, NO)))

    def test_the_sides_exchanged(self):
        # Promise 10.
        for dance, rule in dances_back():
            other, turned = dance.swapped(), rule.swapped()
            self.assertEqual(what_is_left(other, turned), sorted((r, j, i) for r, i, j in what_is_left(dance, rule)))
            self.assertEqual(danced_back(other, turned), danced_back(dance, rule).swapped())
            numbers = (dance.suns, dance.moons)
            self.assertEqual(left_many(dance.rule, rule, *numbers, dance.rounds),
                             left_many(other.rule, turned, *numbers[::-1], dance.rounds))


class AllNumbers(unittest.TestCase):
    SIZES = [(1, 1, 1), (2, 1, 3), (1, 4, 2), (3, 3, 2), (4, 5, 1), (5, 2, 4), (6, 7, 3), (2, 6, 7)]

    def test_against_small_numbers(self):
        for one, other in FORALL_PAIRS + LESS_PAIRS:
            for size in self.SIZES:
                dance = Dance(*size, one)
                left = what_is_left(dance, other)
                self.assertEqual(left_many(one, other, *size), len(left))
                for meeting in dance.meetings():
                    self.assertIs(is_left(one, other, *size, meeting), meeting in left)

    def test_numbers_above_the_bounds(self):
        for one, other in LESS_PAIRS:
            for size in [(9, 8, 5), (11, 3, 4), (2, 12, 9), (8, 8, 12)]:
                dance = Dance(*size, one)
                left = what_is_left(dance, other)
                self.assertEqual(left_many(one, other, *size), len(left))
                for meeting in dance.meetings()[::7]:
                    self.assertIs(is_left(one, other, *size, meeting), meeting in left)

    def test_many_of_forty_digits(self):
        # Promise 6: from lead + 2 * period on, a period more of one number adds the same again and again.
        many = 10 ** 38
        for one, other in FORALL_PAIRS[::2] + LESS_PAIRS:
            lead, period = max(one.lead, other.lead), (one ^ other).period
            base = [lead + 2 * period + 1, lead + 2 * period, lead + 2 * period + 2]
            great = [number + period * many for number in base]
            total = 0
            for corner in product((0, 1), repeat=3):
                size = [number + period * more for number, more in zip(base, corner)]
                share = 1
                for more in corner:
                    share *= many if more else 1 - many
                total += share * self.counted(one, other, *size)
            self.assertEqual(left_many(one, other, *great), total)

    def counted(self, one, other, s, m, r):
        """The meetings that are left, counted by the two dancers of each and the last unlike rounds of any two."""
        last = {(k, l): max([t for t in range(r) if one(t, k, l, s, m) != other(t, k, l, s, m)], default=None)
                for k, l in product(range(s), range(m))}
        total = 0
        for i, j in product(range(s), range(m)):
            ends = [t - (k < i) - (l < j) for (k, l), t in last.items() if t is not None]
            total += max([end + 1 for end in ends if end >= 0], default=0)
        return total

    def test_counted_as_it_is_left(self):
        for one, other in LESS_PAIRS:
            for size in self.SIZES:
                self.assertEqual(self.counted(one, other, *size), len(what_is_left(Dance(*size, one), other)))

    def test_is_left_of_forty_digits(self):
        # A meeting near the first or the last dancers and rounds is left if that of small numbers is.
        many = 10 ** 38
        for one, other in FORALL_PAIRS[::4] + LESS_PAIRS:
            lead, period = max(one.lead, other.lead), (one ^ other).period
            s, m, r = lead + 2 * period + 2, lead + 2 * period + 3, lead + 2 * period + 4
            great = [number + period * many for number in (s, m, r)]
            left = what_is_left(Dance(s, m, r, one), other)
            for t, i, j in product((0, 1, r - 3, r - 2, r - 1), (0, 1, s - 2, s - 1), (0, lead, m - 2, m - 1)):
                meeting = (t + (great[2] - r if 2 * t > r else 0), i + (great[0] - s if 2 * i > s else 0),
                           j + (great[1] - m if 2 * j > m else 0))
                self.assertIs(is_left(one, other, *great, meeting), (t, i, j) in left)

    def test_known_by_hand(self):
        n = 10 ** 20
        self.assertEqual(left_many(RULE, NO, n, n, 1), n * n - 1)
        self.assertEqual(left_many(RULE, RULE, LONG, LONG, LONG), 0)
        self.assertEqual(left_many(YES, NO, LONG, LONG + 1, LONG + 2), LONG * (LONG + 1) * (LONG + 2))
        self.assertEqual(left_many(NO, ONE_MEETING, LONG, LONG, 1), 0)
        # Ahead of (1, 1, 1): four in its round, and of the round before all but those greater on both sides.
        self.assertEqual(left_many(NO, ONE_MEETING, LONG, LONG, LONG), 4 + LONG ** 2 - (LONG - 2) ** 2)
        self.assertIs(is_left(NO, ONE_MEETING, LONG, LONG, LONG, (0, 1, LONG - 1)), True)
        self.assertIs(is_left(NO, ONE_MEETING, LONG, LONG, LONG, (0, 2, 2)), False)
        self.assertIs(is_left(NO, ONE_MEETING, LONG, LONG, LONG, (1, 1, 1)), True)
        self.assertIs(is_left(NO, ONE_MEETING, LONG, LONG, LONG, (1, 2, 1)), False)
        self.assertIs(is_left(YES, LAST, LONG, LONG, 2, (1, LONG - 1, LONG - 1)), True)

    def test_no_meeting_tells_the_very_value(self):
        others = [(2, 0, 0), (0, 3, 0), (0, 0, 4), (-1, 0, 0), (0, 0, -1), (True, 0, 0), (0, False, 0), (0, 0, True),
                  [0, 0, 0], (0, 0), ((0, 0, 0),), (LONG, 0, 0), (0, LONG, 0), (0, 0, LONG)]
        for thing in ODD_VALUES + others:
            with self.assertRaises(NoMeeting) as context:
                is_left(RULE, NO, 3, 4, 2, thing)
            self.assertIs(context.exception.meeting, thing)
        for thing in [(LONG + 2, 0, 0), (0, LONG, 0), (0, 0, LONG + 1)]:
            with self.assertRaises(NoMeeting) as context:
                is_left(RULE, RULE, LONG, LONG + 1, LONG + 2, thing)
            self.assertIs(context.exception.meeting, thing)

    def test_asking_changes_nothing(self):
        answers = [[left_many(RULE, NO, 5, 4, 3), is_left(RULE, NO, 5, 4, 3, (2, 4, 3)), RULE.parts(), NO.parts()]
                   for _ in range(2)]
        self.assertEqual(answers[0], answers[1])


if __name__ == "__main__":
    unittest.main()
