import random
import unittest
from itertools import combinations, product

from poleribbons.dances import Dance
from poleribbons.errors import Unfit, Wrong
from poleribbons.heaps import Heap, heap_of
from poleribbons.programmes import Programme
from poleribbons.rules import Rule
from poleribbons.words import Word
from samples import LONG, ODD_VALUES, RULES, suns, turns

RULE, YES, NO = RULES[13], Rule.always(True), Rule.always(False)
ONCE = [("on", 1, RULE), ("back", 1, RULE)]


def some_acts():
    """Lists of acts, many of which undo one another."""
    chance = random.Random(73)
    rules = [YES, NO, RULE, RULE ^ NO, turns("", "10"), suns("", "10")]
    found = [[], ONCE, ONCE[::-1], ONCE * 2, ONCE[:1] * 3, [("on", 2, RULE), ("back", 1, RULE)],
             [("on", 1, YES), ("on", 2, RULE), ("back", 2, RULE ^ NO), ("on", 1, NO)],
             [("on", 2, YES), ("back", 1, YES), ("back", 1, YES), ("on", 1, RULE)],
             [("back", 3, NO), ("on", 1, NO), ("on", 2, NO), ("on", 1, YES), ("back", 1, YES), ("on", 2, RULE)]]
    for many in range(1, 7):
        for _ in range(12):
            found.append([(chance.choice(["on", "back"]), chance.choice([1, 1, 2]), chance.choice(rules))
                          for _ in range(many)])
    return found


SIZES = [(1, 1), (2, 2), (2, 3), (3, 1)]
PROGRAMMES = [Programme(*SIZES[number % 4], acts) for number, acts in enumerate(some_acts())]


def pieces_of(programme, indexes):
    """The pieces of these acts, one behind another, read off the rules."""
    found = []
    for at in indexes:
        word, rounds, rule = programme.acts()[at]
        dance = Dance(programme.suns, programme.moons, rounds, rule)
        order = dance.meetings() if word == "on" else dance.meetings()[::-1]
        found += [(i, j, dance.above((r, i, j)), word == "on") for r, i, j in order]
    return found


class Made(unittest.TestCase):
    def wrong(self, place, *arguments):
        with self.assertRaises(Wrong) as context:
            Programme(*arguments)
        self.assertEqual(context.exception.place, place)

    def test_wrong_tells_the_first_place(self):
        for thing in ODD_VALUES:
            if not (type(thing) is int and thing > 0):
                self.wrong(0, thing, 1, [])
                self.wrong(0, thing, thing, thing)
                self.wrong(1, 1, thing, ONCE)
                self.wrong(1, 1, thing, thing)
            if thing not in ([], ()):
                self.wrong(2, 1, 1, thing)
            self.wrong(2, 1, 1, [thing])
            self.wrong(2, 1, 1, ONCE + [thing])
            self.wrong(2, 1, 1, (thing,))
            if thing != "on":
                self.wrong(2, 1, 1, [(thing, 1, RULE)])
            if not (type(thing) is int and thing > 0):
                self.wrong(2, 1, 1, [("on", thing, RULE)])
            if not isinstance(thing, Rule):
                self.wrong(2, 1, 1, [("back", 1, thing)])

    def test_wrong_for_what_is_no_act(self):
        for act in [("on", 1), ("on", 1, RULE, 0), ["on", 1, RULE], ("On", 1, RULE), ("off", 1, RULE), ("on", 0, RULE),
                    ("on", -1, RULE), ("on", True, RULE), ("on", "1", RULE), ("on", 1, RULE.parts()), (1, "on", RULE),
                    (("on", 1, RULE),), ("", 1, RULE), ("on", 1, None), "on", Dance(1, 1, 1, RULE)]:
            self.wrong(2, 2, 2, [act])
            self.wrong(2, 2, 2, (ONCE[0], act))
        for acts in [{ONCE[0][:2]}, {0: ONCE[0]}, ONCE[0], iter(ONCE), "on", Programme(1, 1, ONCE), Heap()]:
            self.wrong(2, 2, 2, acts)
        self.wrong(0, 0, 0, 0)
        self.wrong(1, 2, True, [None])

    def test_properties_acts_and_length(self):
        for s, m in [(2, 3), (LONG, LONG + 1)]:
            for acts in [[], ONCE, tuple(ONCE), [("on", LONG, RULE)] * 6]:
                programme = Programme(s, m, acts)
                self.assertEqual([programme.suns, programme.moons, len(programme)], [s, m, len(acts)])
                self.assertEqual(programme.acts(), list(acts))
                self.assertIs(type(programme.acts()), list)

    def test_what_is_passed_may_be_changed_afterwards(self):
        acts = list(ONCE)
        programme = Programme(2, 2, acts)
        acts.append(("on", 1, YES))
        acts[0] = None
        self.assertEqual(programme.acts(), ONCE)
        programme.acts().clear()
        self.assertEqual(programme.acts(), ONCE)

    def test_equal_if_all_three_are(self):
        kinds = [(2, 3, ONCE), (3, 2, ONCE), (2, 2, ONCE), (2, 3, ONCE[::-1]), (2, 3, ONCE[:1]), (2, 3, []),
                 (2, 3, [("on", 2, RULE), ONCE[1]]), (2, 3, [("on", 1, RULE ^ NO), ONCE[1]]), (2, 3, ONCE * 2),
                 (2, 3, [("on", 1, YES), ONCE[1]])]
        for m, n in product(range(len(kinds)), repeat=2):
            one, other = Programme(*kinds[m]), Programme(kinds[n][0], kinds[n][1], tuple(kinds[n][2]))
            self.assertIs(one == other, m == n)
            self.assertIs(one != other, m != n)
        again = Rule.by("turns", Word("", "10")) ^ Rule.by("suns", Word("", "10"))
        self.assertIs(Programme(2, 3, [("on", 1, again), ("back", 1, again)]) == Programme(2, 3, ONCE), True)

    def test_equal_to_nothing_else(self):
        programme = Programme(2, 3, ONCE)
        for thing in ODD_VALUES + [ONCE, tuple(ONCE), (2, 3, ONCE), programme.heap(), Heap(), Programme]:
            self.assertIs(programme == thing, False)
            self.assertIs(thing == programme, False)
            self.assertIs(programme != thing, True)


class Danced(unittest.TestCase):
    def test_heap_of_all_acts(self):
        for programme in PROGRAMMES:
            expected = Heap(pieces_of(programme, range(len(programme))))
            self.assertIs(programme.heap() == expected, True)
            self.assertEqual(list(programme.heap()), list(expected))

    def test_heaps_known_by_hand(self):
        self.assertEqual(list(Programme(2, 2, ONCE).heap()), [])
        self.assertEqual(list(Programme(2, 2, ONCE[::-1]).heap()), [])
        self.assertEqual(Programme(2, 3, [("on", 2, RULE)]).heap(), heap_of(Dance(2, 3, 2, RULE)))
        self.assertEqual(Programme(2, 3, [("back", 2, RULE)]).heap(), ~heap_of(Dance(2, 3, 2, RULE)))
        self.assertEqual(list(Programme(1, 1, [("on", 2, YES), ("back", 1, YES)]).heap()), [(0, 0, True, True)])
        self.assertEqual(list(Programme(1, 1, [("on", 1, YES), ("back", 1, NO)]).heap()),
                         [(0, 0, True, True), (0, 0, False, False)])
        self.assertEqual(len(Programme(2, 2, ONCE[:1] * 6).heap()), 24)

    def same(self, programme, indexes):
        """Whether these acts alone have the same Heap, tried."""
        return Heap(pieces_of(programme, indexes)) == Heap(pieces_of(programme, range(len(programme))))

    def test_needless_by_trying(self):
        for programme in PROGRAMMES:
            indexes = range(len(programme))
            expected = [at for at in indexes if self.same(programme, [other for other in indexes if other != at])]
            self.assertEqual(programme.needless(), expected)

    def test_least_by_trying(self):
        answers = set()
        for programme in PROGRAMMES:
            indexes = range(len(programme))
            choices = [list(some) for many in range(len(programme) + 1) for some in combinations(indexes, many)]
            expected = next(some for some in choices if self.same(programme, some))
            self.assertEqual(programme.least(), expected)
            answers.add(len(expected))
        self.assertEqual(answers, set(range(7)))

    def test_least_of_the_shortest(self):
        on, back = ONCE
        self.assertEqual(Programme(2, 2, [on, back, on]).least(), [0])
        self.assertEqual(Programme(2, 2, [on, back, on]).needless(), [])
        self.assertEqual(Programme(2, 2, [on, back, ("on", 2, RULE)]).least(), [2])
        self.assertEqual(Programme(2, 2, [("on", 1, YES), on, on, back]).least(), [0, 1])
        self.assertEqual(Programme(2, 2, [on, on, ("on", 2, RULE), back, back]).least(), [2])
        self.assertEqual(Programme(2, 2, [on, ("on", 2, RULE), on, on, back]).least(), [0, 1, 2])
        self.assertEqual(Programme(2, 2, []).least(), [])
        self.assertEqual(Programme(2, 2, []).needless(), [])
        self.assertEqual(Programme(2, 2, [on]).needless(), [])

    def test_no_act_alone_is_needless(self):
        # Each act leaves pieces, and what stands around it alone does not put them there; but several may go.
        on, back = ("on", 1, YES), ("back", 1, YES)
        for acts in ([on, back, on, back], [on, on, back, back], [back, on, on]):
            programme = Programme(2, 1, acts)
            self.assertEqual(programme.needless(), [])
            self.assertEqual(len(programme.least()), len(acts) % 2)

    def test_turned(self):
        for programme in PROGRAMMES:
            other = programme.turned()
            words = {"on": "back", "back": "on"}
            self.assertEqual(other.acts(), [(words[word], r, rule) for word, r, rule in programme.acts()[::-1]])
            self.assertEqual([other.suns, other.moons], [programme.suns, programme.moons])
            self.assertEqual(other.heap(), ~programme.heap())
            self.assertEqual(other.turned(), programme)
            self.assertEqual(list((programme + other).heap()), [])

    def test_one_behind_another(self):
        for one, other in product(PROGRAMMES[::3], PROGRAMMES[1::4]):
            if (one.suns, one.moons) == (other.suns, other.moons):
                both = one + other
                self.assertEqual(both.acts(), one.acts() + other.acts())
                self.assertEqual([both.suns, both.moons], [one.suns, one.moons])
                self.assertEqual(both.heap(), one.heap() * other.heap())

    def test_unfit(self):
        sizes = [(2, 3), (3, 2), (2, 2), (3, 3), (LONG, 3)]
        for one, other in product(sizes, repeat=2):
            programmes = Programme(*one, ONCE), Programme(*other, ONCE[:1])
            if one == other:
                self.assertEqual(programmes[0] + programmes[1], Programme(*one, ONCE + ONCE[:1]))
            else:
                with self.assertRaises(Unfit):
                    programmes[0] + programmes[1]
            self.assertEqual([programmes[0].acts(), programmes[1].acts()], [ONCE, ONCE[:1]])

    def test_the_sides_exchanged(self):
        # Promise 10.
        for programme in PROGRAMMES:
            acts = [(word, rounds, rule.swapped()) for word, rounds, rule in programme.acts()]
            other = Programme(programme.moons, programme.suns, acts)
            self.assertEqual(other.heap(), programme.heap().swapped())
            self.assertEqual(other.needless(), programme.needless())
            self.assertEqual(other.least(), programme.least())

    def test_asking_changes_nothing(self):
        programme = Programme(2, 2, some_acts()[7])
        answers = []
        for _ in range(2):
            found = [programme.acts(), programme.needless(), programme.least(), list(programme.heap()),
                     programme.turned().acts(), (programme + programme).acts(), len(programme)]
            answers.append([list(one) if isinstance(one, list) else one for one in found])
            for one in found[:3]:
                one.clear()
        self.assertEqual(answers[0], answers[1])


if __name__ == "__main__":
    unittest.main()
