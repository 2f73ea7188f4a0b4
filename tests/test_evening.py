import copy
import random
import unittest

from poleribbons.dances import Dance
from poleribbons.errors import Full, NoDeed, NoEntry, NoMeeting, NotLaid, Nothing, Refused, RibbonError, Wrong
from poleribbons.evening import Evening
from poleribbons.heaps import Heap, heap_of
from poleribbons.layers import hangs
from poleribbons.rules import Rule
from poleribbons.words import Word
from evenings import Model, all_ahead, some_acts, some_deed
from samples import LONG, ODD_VALUES, RULES, nested, suns, turns

RULE, YES, NO = RULES[13], Rule.always(True), Rule.always(False)
TO_NO = ("rule", NO.parts())
SIZES = [(1, 1), (1, 3), (3, 1), (2, 2), (2, 3), (3, 2), (3, 3)]

# None of these is a meeting of two sun dancers and three moon dancers.
NO_MEETINGS = ODD_VALUES + [
    (0, 2, 0), (0, 0, 3), (-1, 0, 0), (0, -1, 0), (0, 0, -1), [0, 0, 0], (0, 0), (0, 0, 0, 0), (True, 0, 0),
    (0, False, 0), (0, 0, True), ((0, 0, 0),), (0, LONG, 0), (0, 0, LONG), "0.0.0", (0, 0, "0"), ([0], 0, 0)]

NO_PARTS = [None, True, "yes", (), ("always",), ("always", 1), ("always", True, True), ["always", True], YES,
            ("not",), ("not", True), ("not", ["always", True]), ("turns", "", ""), ("turns", "2", "1"),
            ("sky", "", "1"), ("and", ("always", True)), ("and", ("always", True), None),
            nested(38, lambda value: ("not", value))]


def told(evening):
    """All that an Evening tells without being asked for one meeting."""
    return [evening.suns, evening.moons, evening.first.parts(), evening.rule.parts(), evening.laid(), evening.can(),
            evening.ends(), evening.log(), len(evening), list(evening), evening.rounds_laid(), list(evening.heap()),
            evening.holds(), [evening.above(meeting) for meeting in evening.laid()], evening.needed((2, 0, 0))]


def all_redone(evening):
    """All deeds that can be done again, one behind another, asked of a copy."""
    other, found = evening.copied(), []
    while True:
        try:
            found.append(other.redo())
        except Nothing:
            return found


def whole(evening):
    return told(evening) + [all_redone(evening)]


def led(s, m, rule, deeds):
    evening = Evening(s, m, rule)
    for deed in deeds:
        evening.do(deed)
    return evening


def of_deeds(many):
    """An Evening of one sun and one moon dancer with so many deeds."""
    return led(1, 1, RULE, [("lay", (r, 0, 0)) for r in range(many)])


class Checked(unittest.TestCase):
    def raises(self, kind, field, thing, act, *arguments):
        """That a call raises an error that keeps the very value."""
        with self.assertRaises(kind) as context:
            act(*arguments)
        self.assertIs(type(context.exception), kind)
        if field is not None:
            self.assertIs(getattr(context.exception, field), thing)

    def unchanged(self, evening, kind, field, thing, act, *arguments):
        """That a call raises, and changes nothing, not even what can be done again."""
        before = whole(evening)
        self.raises(kind, field, thing, act, *arguments)
        self.assertEqual(whole(evening), before)


class Made(Checked):
    def test_properties(self):
        evening = Evening(2, 3, RULE)
        self.assertEqual([evening.suns, evening.moons, evening.first == RULE, evening.rule == RULE], [2, 3, True, True])
        self.assertEqual([len(evening), evening.log(), list(evening), evening.laid(), evening.ends()],
                         [0, [], [], [], []])
        self.assertEqual([evening.can(), evening.rounds_laid(), list(evening.heap())], [[(0, 0, 0)], 0, []])
        evening.do(TO_NO)
        self.assertEqual([evening.first == RULE, evening.rule == NO], [True, True])

    def test_wrong_tells_the_first_place(self):
        for thing in ODD_VALUES:
            if not (type(thing) is int and thing > 0):
                for place, arguments in ((0, (thing, 1, RULE)), (0, (thing, thing, thing)), (1, (1, thing, RULE)),
                                         (1, (1, thing, thing))):
                    with self.assertRaises(Wrong) as context:
                        Evening(*arguments)
                    self.assertEqual(context.exception.place, place)
            if not isinstance(thing, Rule):
                with self.assertRaises(Wrong) as context:
                    Evening(1, 1, thing)
                self.assertEqual(context.exception.place, 2)

    def test_nothing_is_refused_for_its_size(self):
        evening = Evening(LONG, 10 ** 999, RULE)
        self.assertEqual([evening.suns, evening.moons], [LONG, 10 ** 999])
        evening = Evening(12, 11, RULE)
        evening.do(("lay", (0, 0, 0)))
        self.assertEqual(evening.can(), [(0, 0, 1), (0, 1, 0)])


class Led(Checked):
    """Whole evenings, led by chance, held against the model after each act."""

    def compare(self, evening, model):
        laid, rule = model.state()
        self.assertEqual(evening.laid(), sorted(laid))
        self.assertEqual([evening.above(meeting) for meeting in sorted(laid)], [laid[one] for one in sorted(laid)])
        self.assertEqual([evening.can(), evening.ends()], [model.can(), model.ends()])
        self.assertEqual([evening.log(), list(evening), len(evening)], [model.log, model.log, len(model.log)])
        self.assertEqual([evening.first, evening.rule], [model.first, rule])
        self.assertEqual(evening.rounds_laid(), model.rounds_laid())
        self.assertIs(evening.holds(), model.holds())
        self.assertEqual(evening.heap(), Heap([(i, j, laid[r, i, j], True) for r, i, j in sorted(laid)]))
        for meeting in model.near():
            self.assertEqual(evening.needed(meeting), model.needed(meeting))
            if meeting not in laid:
                self.raises(NotLaid, "meeting", meeting, evening.above, meeting)

    def do(self, evening, model, chance):
        deed = some_deed(chance, model)
        if not model.can_do(deed):
            self.raises(Refused, "deed", deed, evening.do, deed)
            return "refused " + deed[0]
        self.assertIsNone(evening.do(deed))
        model.log.append(deed)
        model.undone = []
        return deed[0]

    def undo(self, evening, model, chance):
        if not model.log:
            self.raises(Nothing, None, None, evening.undo)
            return "nothing to undo"
        self.assertEqual(evening.undo(), model.log[-1])
        model.undone.append(model.log.pop())
        return "undo"

    def redo(self, evening, model, chance):
        if not model.undone:
            self.raises(Nothing, None, None, evening.redo)
            return "nothing to redo"
        self.assertEqual(evening.redo(), model.undone[-1])
        model.log.append(model.undone.pop())
        return "redo"

    def finish(self, evening, model, chance):
        rounds = chance.choice([1, 1, 2, 3])
        lacking = model.lacking(rounds)
        self.assertEqual(evening.finish(rounds), lacking)
        model.log += [("lay", meeting) for meeting in lacking]
        if lacking:
            model.undone = []
        return "finish" if lacking else "nothing to finish"

    def test_by_chance(self):
        had = set()
        for seed in range(42):
            s, m = SIZES[seed % len(SIZES)]
            first = RULES[seed % len(RULES)]
            evening, model = Evening(s, m, first), Model(s, m, first)
            for word, chance in some_acts(seed, 25):
                had.add(getattr(self, word)(evening, model, chance))
                self.compare(evening, model)
            self.assertEqual(evening, led(s, m, first, model.log))
            self.assertEqual(all_redone(evening), model.undone[::-1])
        self.assertEqual(had, {"lay", "take", "rule", "refused lay", "refused take", "undo", "redo", "nothing to undo",
                               "nothing to redo", "finish", "nothing to finish"})

    def test_all_that_is_told_is_asked_only(self):
        evening = led(2, 3, RULE, [("lay", (0, 0, 0)), ("lay", (0, 0, 1)), TO_NO, ("lay", (0, 1, 0))])
        evening.undo()
        before = whole(evening)
        self.assertEqual(whole(evening), before)
        for act in (evening.laid, evening.can, evening.ends, evening.log):
            act().clear()
            act().append(None)
        evening.needed((2, 0, 0)).clear()
        self.assertEqual(whole(evening), before)


class Meetings(Checked):
    def test_what_is_laid_stays_as_it_is(self):
        evening = led(1, 2, YES, [("lay", (0, 0, 0)), TO_NO, ("lay", (0, 0, 1))])
        self.assertEqual([evening.above((0, 0, 0)), evening.above((0, 0, 1))], [True, False])
        # Laid anew, it is laid by the rule of then; undone, it is as it was.
        evening.do(("take", (0, 0, 1)))
        evening.do(("take", (0, 0, 0)))
        evening.do(("lay", (0, 0, 0)))
        self.assertIs(evening.above((0, 0, 0)), False)
        evening.undo()
        evening.undo()
        self.assertIs(evening.above((0, 0, 0)), True)

    def test_above_of_any_value(self):
        evening = led(2, 3, RULE, [("lay", (0, 0, 0)), ("lay", (0, 0, 1)), ("lay", (0, 1, 0))])
        self.assertEqual([evening.above((0, 0, 0)), evening.above((0, 0, 1)), evening.above((0, 1, 0))],
                         [False, True, True])
        for thing in NO_MEETINGS + [(0, 1, 1), (1, 0, 0), (10 ** 999, 0, 0), (0, 0, 2)]:
            self.unchanged(evening, NotLaid, "meeting", thing, evening.above, thing)
        self.raises(NotLaid, "meeting", None, evening.above, None)
        for thing in [(False, 0, 0), (0, True, 0), (0, 0, True)]:
            self.raises(NotLaid, "meeting", thing, evening.above, thing)

    def test_needed_of_any_value(self):
        evening = led(2, 3, RULE, [("lay", (0, 0, 0)), ("lay", (0, 0, 1))])
        for thing in NO_MEETINGS:
            self.unchanged(evening, NoMeeting, "meeting", thing, evening.needed, thing)
        self.assertEqual([evening.needed((0, 0, 0)), evening.needed((0, 0, 2)), evening.needed((0, 1, 1))],
                         [[], [], [(0, 1, 0)]])
        self.assertEqual(evening.needed((1, 0, 0)), [(0, 0, 2), (0, 1, 0)])

    def test_needed_in_the_first_twelve_rounds(self):
        for s, m in [(2, 3), (3, 1)]:
            evening = Evening(s, m, YES)
            evening.finish(2)
            for meeting in [(11, s - 1, m - 1), (11, 0, 0), (6, s - 1, 0), (2, 0, 0), (1, 0, 0)]:
                expected = sorted(one for one in all_ahead(s, m, meeting) if one[0] >= 2)
                self.assertEqual(evening.needed(meeting), expected)
        great = Evening(9, 9, YES)
        self.assertEqual(len(great.needed((11, 8, 8))), 12 * 81 - 1)
        self.assertEqual(len(great.needed((11, 0, 0))), len(all_ahead(9, 9, (1, 0, 0))) + 10 * 81)

    def test_rounds_run_ahead_of_one_another(self):
        evening = Evening(2, 2, YES)
        for meeting in [(0, 0, 0), (0, 0, 1), (0, 1, 0), (1, 0, 0)]:
            self.assertIn(meeting, evening.can())
            evening.do(("lay", meeting))
        self.assertEqual([evening.can(), evening.ends()], [[(0, 1, 1)], [(1, 0, 0)]])
        self.assertEqual(evening.rounds_laid(), 0)
        self.assertEqual(evening.finish(1), [(0, 1, 1)])
        self.assertEqual([evening.rounds_laid(), evening.laid()[-1]], [1, (1, 0, 0)])

    def test_heap_and_holds_of_whole_rounds(self):
        for rule in RULES:
            for s, m in SIZES:
                evening = Evening(s, m, rule)
                self.assertIs(evening.holds(), False)
                for rounds in (1, 2, 3):
                    evening.finish(rounds)
                    dance = Dance(s, m, rounds, rule)
                    self.assertEqual(evening.heap(), heap_of(dance))
                    self.assertIs(evening.holds(), hangs(dance))
                    self.assertEqual(evening.rounds_laid(), rounds)


class Deeds(Checked):
    def test_no_deed_by_its_form(self):
        evening = led(2, 3, RULE, [("lay", (0, 0, 0)), ("lay", (0, 0, 1))])
        evening.undo()
        bad = [("lay",), ("lay", (0, 0, 1), 0), ["lay", (0, 0, 1)], ("lay", [0, 0, 1]), ("Lay", (0, 0, 1)), "lay 0.0.1",
               ("lay", 0, 0, 1), ((0, 0, 1), "lay"), ("put", (0, 0, 1)), (b"lay", (0, 0, 1)), (("lay",), (0, 0, 1)),
               (None, (0, 0, 1)), (True, (0, 0, 1)), ("rule", RULE), ("rule", "yes"), ("rule",),
               ("lay", ("always", True)), ("take", ("always", True)), ("rule", (0, 0, 1)), ("", (0, 0, 1)),
               (["lay"], (0, 0, 1)), {"lay": (0, 0, 1)}, ("rule", list(RULE.parts())), (RULE, RULE.parts()),
               ("rule", nested(38, lambda value: [value]))]
        for thing in ODD_VALUES + bad + [("lay", thing) for thing in NO_MEETINGS]:
            self.raises(NoDeed, "deed", thing, evening.do, thing)
        for thing in NO_MEETINGS[::5] + NO_PARTS:
            for word in ("lay", "take", "rule"):
                deed = (word, thing)
                self.unchanged(evening, NoDeed, "deed", deed, evening.do, deed)
        self.assertEqual(evening.redo(), ("lay", (0, 0, 1)))

    def test_refused_deeds_between_others(self):
        evening = led(2, 2, RULE, [("lay", (0, 0, 0)), ("lay", (0, 0, 1)), ("lay", (0, 1, 0))])
        evening.undo()
        for deed in [("lay", (0, 0, 0)), ("lay", (0, 0, 1)), ("lay", (0, 1, 1)), ("lay", (1, 0, 0)),
                     ("take", (0, 0, 0)), ("take", (0, 1, 0)), ("take", (1, 0, 0)), ("lay", (10 ** 999, 0, 0)),
                     ("take", (10 ** 999, 1, 1))]:
            self.unchanged(evening, Refused, "deed", deed, evening.do, deed)
        self.assertEqual(evening.redo(), ("lay", (0, 1, 0)))
        self.assertEqual(evening.log(), [("lay", (0, 0, 0)), ("lay", (0, 0, 1)), ("lay", (0, 1, 0))])

    def test_two_hundred_deeds_and_one_more(self):
        evening = of_deeds(199)
        evening.do(TO_NO)
        self.assertEqual(len(evening), 200)
        for deed in [("lay", (199, 0, 0)), TO_NO, ("take", (198, 0, 0)), ("lay", (0, 0, 0)), ("take", (500, 0, 0))]:
            with self.assertRaises(Full) as context:
                evening.do(deed)
            self.assertEqual(context.exception.limit, 200)
        for deed in [("lay", (0, 1, 0)), ("rule", True), None]:
            self.raises(NoDeed, "deed", deed, evening.do, deed)
        self.assertEqual([len(evening), len(evening.laid()), evening.rule == NO], [200, 199, True])
        self.assertEqual(evening.undo(), TO_NO)
        self.assertEqual(evening.redo(), TO_NO)
        evening.undo()
        self.unchanged(evening, Refused, "deed", evening.log()[0], evening.do, evening.log()[0])
        evening.do(("lay", (199, 0, 0)))
        self.assertEqual(evening.rounds_laid(), 200)

    def test_full_leaves_what_can_be_done_again(self):
        evening = of_deeds(200)
        with self.assertRaises(Full):
            evening.do(TO_NO)
        evening.undo()
        evening.undo()
        with self.assertRaises(Full):
            evening.finish(201)
        self.assertEqual(all_redone(evening), [("lay", (198, 0, 0)), ("lay", (199, 0, 0))])

    def test_deeds_of_greatest_rules(self):
        deep = RULE
        for _ in range(18):
            deep = ~deep
        evening = led(1, 2, RULE, [("rule", deep.parts())])
        self.assertEqual([evening.rule == deep, evening.log()], [True, [("rule", deep.parts())]])
        evening.do(("rule", ("and", deep.parts(), ("always", False))))
        evening.do(("lay", (0, 0, 0)))
        self.assertIs(evening.above((0, 0, 0)), False)


class Undone(Checked):
    def test_nothing_to_undo_or_to_redo(self):
        evening = Evening(2, 2, RULE)
        self.unchanged(evening, Nothing, None, None, evening.undo)
        self.unchanged(evening, Nothing, None, None, evening.redo)
        evening.do(TO_NO)
        self.unchanged(evening, Nothing, None, None, evening.redo)
        evening.undo()
        self.unchanged(evening, Nothing, None, None, evening.undo)

    def test_several_one_after_another(self):
        deeds = [("lay", (0, 0, 0)), TO_NO, ("lay", (0, 0, 1)), ("take", (0, 0, 1)), ("rule", YES.parts())]
        evening = led(1, 2, RULE, deeds)
        states = [told(led(1, 2, RULE, deeds[:many])) for many in range(6)]
        for many in range(5, 0, -1):
            self.assertEqual(evening.undo(), deeds[many - 1])
            self.assertEqual(told(evening), states[many - 1])
        for many in range(5):
            self.assertEqual(evening.redo(), deeds[many])
            self.assertEqual(told(evening), states[many + 1])
        self.raises(Nothing, None, None, evening.redo)

    def test_a_deed_ends_what_can_be_done_again(self):
        for act in (lambda evening: evening.do(TO_NO), lambda evening: evening.do(("lay", (0, 0, 1))),
                    lambda evening: evening.finish(1)):
            evening = led(1, 2, RULE, [("lay", (0, 0, 0)), ("lay", (0, 0, 1))])
            evening.undo()
            act(evening)
            self.raises(Nothing, None, None, evening.redo)
        evening.undo()
        self.assertEqual(evening.redo(), ("lay", (0, 0, 1)))

    def test_finish_that_lays_nothing_does_not(self):
        evening = led(1, 2, RULE, [("lay", (0, 0, 0)), ("lay", (0, 0, 1)), TO_NO])
        evening.undo()
        self.assertEqual(evening.finish(1), [])
        self.assertEqual([len(evening), evening.redo()], [2, TO_NO])

    def test_redo_is_no_new_deed(self):
        evening = led(1, 1, RULE, [("lay", (0, 0, 0)), ("lay", (1, 0, 0)), ("lay", (2, 0, 0))])
        for _ in range(3):
            evening.undo()
        self.assertEqual([evening.redo(), evening.redo(), evening.undo(), evening.redo(), evening.redo()],
                         [("lay", (n, 0, 0)) for n in (0, 1, 1, 1, 2)])


class Finished(Checked):
    def test_by_levels(self):
        evening = Evening(2, 3, RULE)
        expected = [one for level in Dance(2, 3, 2, RULE).levels() for one in level]
        self.assertEqual(evening.finish(2), expected)
        self.assertEqual(evening.log(), [("lay", meeting) for meeting in expected])
        self.assertEqual(expected[:4], [(0, 0, 0), (0, 0, 1), (0, 1, 0), (0, 0, 2)])
        self.assertEqual(evening.undo(), ("lay", (1, 1, 2)))

    def test_by_the_present_rule(self):
        evening = led(2, 2, YES, [("lay", (0, 0, 0)), TO_NO])
        evening.finish(1)
        self.assertEqual([evening.above(meeting) for meeting in evening.laid()], [True, False, False, False])

    def test_full(self):
        evening = Evening(9, 9, RULE)
        self.assertEqual(len(evening.finish(2)), 162)
        for rounds in (3, 4, LONG, 10 ** 40 - 1):
            before = whole(evening)
            with self.assertRaises(Full) as context:
                evening.finish(rounds)
            self.assertEqual(context.exception.limit, 200)
            self.assertEqual(whole(evening), before)
        self.assertEqual([evening.finish(1), evening.finish(2)], [[], []])

    def test_just_two_hundred(self):
        evening = Evening(1, 1, RULE)
        evening.do(TO_NO)
        with self.assertRaises(Full):
            evening.finish(200)
        self.assertEqual([len(evening.finish(199)), len(evening)], [199, 200])
        self.assertEqual(evening.finish(199), [])
        with self.assertRaises(Full):
            evening.finish(200)
        # What lacks counts, not what there is.
        evening = of_deeds(150)
        self.assertEqual(len(evening.finish(200)), 50)
        self.assertEqual(len(Evening(5, 5, RULE).finish(8)), 200)
        self.raises(Full, None, None, Evening(3, 67, RULE).finish, 1)

    def test_meetings_of_later_rounds_do_not_count(self):
        # The log holds 199 deeds and the meeting (1, 0, 0) is laid, so one is all that still goes in.
        evening = led(2, 2, YES, [("lay", (0, 0, 0)), ("lay", (0, 0, 1)), ("lay", (0, 1, 0)), ("lay", (1, 0, 0))])
        for _ in range(195):
            evening.do(TO_NO)
        with self.assertRaises(Full):
            evening.finish(2)
        self.assertEqual(evening.finish(1), [(0, 1, 1)])
        evening.undo()
        evening.do(TO_NO)
        with self.assertRaises(Full):
            evening.finish(1)


class Copied(Checked):
    def test_past(self):
        deeds = [("lay", (0, 0, 0)), ("lay", (0, 0, 1)), TO_NO, ("lay", (0, 1, 0)), ("take", (0, 0, 1))]
        evening = led(2, 2, RULE, deeds)
        for many in range(6):
            before = whole(evening)
            other = evening.past(many)
            self.assertIsInstance(other, Evening)
            self.assertEqual(whole(other), whole(led(2, 2, RULE, deeds[:many])))
            other.finish(2)
            self.assertEqual(whole(evening), before)
        evening.undo()
        self.raises(Nothing, None, None, evening.past(2).redo)
        for many in (5, 6, -1, LONG, -LONG, 10 ** 999):
            self.unchanged(evening, NoEntry, "many", many, evening.past, many)
        self.assertEqual(whole(Evening(1, 1, RULE).past(0)), whole(Evening(1, 1, RULE)))
        self.raises(NoEntry, None, None, Evening(1, 1, RULE).past, 1)

    def test_copied(self):
        evening = led(2, 2, RULE, [("lay", (0, 0, 0)), TO_NO, ("lay", (0, 0, 1)), ("lay", (0, 1, 0))])
        evening.undo()
        evening.undo()
        before = whole(evening)
        other = evening.copied()
        self.assertIsNot(other, evening)
        self.assertEqual(whole(other), before)
        self.assertEqual([other.redo(), other.redo()], [("lay", (0, 0, 1)), ("lay", (0, 1, 0))])
        other.finish(3)
        self.assertEqual(whole(evening), before)
        other = evening.copied()
        evening.do(("lay", (0, 1, 0)))
        self.assertEqual(whole(other), before)

    def test_equal(self):
        deeds = [("lay", (0, 0, 0)), TO_NO]
        evening = led(2, 2, RULE, deeds)
        same = led(2, 2, Rule.of(RULE.parts()), deeds + [("lay", (0, 0, 1))])
        self.assertIs(evening == same, False)
        same.undo()
        # What can be done again does not count.
        self.assertIs(evening == same, True)
        self.assertIs(evening != same, False)
        others = [led(2, 3, RULE, deeds), led(3, 2, RULE, deeds), led(2, 2, YES, deeds), led(2, 2, RULE, deeds[:1]),
                  led(2, 2, RULE, deeds[::-1]), led(2, 2, RULE, deeds + [TO_NO]), led(2, 2, ~~RULE, deeds),
                  Evening(2, 2, RULE), Dance(2, 2, 1, RULE)] + ODD_VALUES
        for other in others:
            self.assertIs(evening == other, False)
            self.assertIs(evening != other, True)
        # The same is laid, but not by the same deeds.
        one = led(1, 1, RULE, [("lay", (0, 0, 0)), ("take", (0, 0, 0))])
        self.assertIs(one == Evening(1, 1, RULE), False)

    def test_iterated_as_its_log(self):
        evening = led(2, 2, RULE, [("lay", (0, 0, 0)), TO_NO])
        self.assertEqual([deed for deed in evening], evening.log())
        self.assertEqual(list(zip(evening, evening)), [(deed, deed) for deed in evening.log()])
        evening.undo()
        self.assertEqual([list(evening), len(evening)], [[("lay", (0, 0, 0))], 1])


class Tried(Checked):
    def setUp(self):
        self.evening = led(2, 2, RULE, [("lay", (0, 0, 0)), ("lay", (0, 0, 1)), TO_NO, ("lay", (0, 1, 0))])
        self.evening.undo()
        self.before = whole(self.evening)

    def test_the_answer_and_the_evening_itself(self):
        self.assertIs(self.evening.trial(lambda other: other), self.evening)
        marks = []
        answer = object()
        self.assertIs(self.evening.trial(lambda other: marks.append(other) or answer), answer)
        self.assertIs(marks[0], self.evening)
        self.assertIsNone(self.evening.trial(lambda other: None))
        self.assertEqual(whole(self.evening), self.before)

    def test_all_is_as_it_was(self):
        acts = [lambda other: other.undo(), lambda other: other.redo(), lambda other: other.finish(4),
                lambda other: other.do(("rule", YES.parts())), lambda other: other.do(("take", (0, 0, 1))),
                lambda other: [other.undo(), other.undo(), other.undo(), other.do(("rule", YES.parts())),
                               other.do(("lay", (0, 0, 0))), other.finish(2)]]
        for act in acts:
            self.evening.trial(act)
            self.assertEqual(whole(self.evening), self.before)
        # It goes on as if there had been no trial.
        self.assertEqual(self.evening.redo(), ("lay", (0, 1, 0)))
        self.assertIs(self.evening.above((0, 1, 0)), False)

    def test_changes_are_seen_while_it_is_tried(self):
        def act(other):
            other.finish(2)
            return (other.rounds_laid(), len(other), self.evening.rounds_laid())
        self.assertEqual(self.evening.trial(act), (2, 9, 2))
        self.assertEqual(whole(self.evening), self.before)

    def test_an_error_goes_on(self):
        for error in (ValueError("x"), KeyError(1), Nothing(), ZeroDivisionError(), KeyboardInterrupt()):
            def act(other):
                other.finish(3)
                other.undo()
                raise error
            with self.assertRaises(type(error)) as context:
                self.evening.trial(act)
            self.assertIs(context.exception, error)
            self.assertEqual(whole(self.evening), self.before)
        self.raises(Refused, None, None, self.evening.trial, lambda other: other.do(("lay", (0, 0, 0))))
        self.assertEqual(whole(self.evening), self.before)

    def test_a_trial_within_a_trial_ended_by_an_error(self):
        seen = []

        def inner(other):
            other.finish(5)
            other.do(("rule", YES.parts()))
            raise RibbonError("inner")

        def outer(other):
            other.do(("lay", (0, 1, 0)))
            other.do(("lay", (0, 1, 1)))
            other.undo()
            here = whole(other)
            try:
                other.trial(inner)
            except RibbonError:
                seen.append(whole(other) == here)
            seen.append(other.trial(lambda third: third.redo()) == ("lay", (0, 1, 1)))
            seen.append(whole(other) == here)
            other.trial(inner)
        self.raises(RibbonError, None, None, self.evening.trial, outer)
        self.assertEqual(seen, [True, True, True])
        self.assertEqual(whole(self.evening), self.before)

    def test_full_evenings(self):
        evening = of_deeds(200)
        before = whole(evening)
        self.assertEqual(evening.trial(lambda other: [other.undo(), other.finish(199), other.undo()][2]),
                         ("lay", (198, 0, 0)))
        self.raises(Full, None, None, evening.trial, lambda other: other.do(TO_NO))
        self.assertEqual(whole(evening), before)


class Exchanged(Checked):
    def test_the_sides(self):
        # Promise 10.
        for seed in range(12):
            chance = random.Random(seed)
            s, m = SIZES[seed % len(SIZES)]
            first = chance.choice(RULES)
            model, one, other = Model(s, m, first), Evening(s, m, first), Evening(m, s, first.swapped())
            for _ in range(20):
                word, what = some_deed(chance, model)
                if model.can_do((word, what)):
                    model.log.append((word, what))
                    one.do((word, what))
                    other.do((word, Rule.of(what).swapped().parts() if word == "rule" else (what[0], what[2], what[1])))
            turned = [(r, j, i) for r, i, j in one.laid()]
            self.assertEqual(other.laid(), sorted(turned))
            self.assertEqual([other.above(meeting) for meeting in turned],
                             [not one.above(meeting) for meeting in one.laid()])
            self.assertEqual(other.can(), sorted((r, j, i) for r, i, j in one.can()))
            self.assertEqual(other.ends(), sorted((r, j, i) for r, i, j in one.ends()))
            self.assertEqual([other.heap(), other.holds(), other.rounds_laid()],
                             [one.heap().swapped(), one.holds(), one.rounds_laid()])


class Kept(Checked):
    def test_what_is_passed_stays(self):
        deeds = [("lay", (0, 0, 0)), ("rule", (suns("", "10") ^ turns("1", "0")).parts()), ("lay", (0, 0, 1))]
        passed = copy.deepcopy(deeds)
        evening = led(2, 2, Rule.by("turns", Word("", "10")), deeds)
        evening.undo()
        evening.trial(lambda other: other.finish(2))
        self.assertEqual(deeds, passed)


if __name__ == "__main__":
    unittest.main()
