"""What the document promises over the whole program: its points 3 and 4, and the guarantees 5, 7 and 8.

The guarantees 6, 9 and 10 are tested beside what they speak of, in the tests of those files.
"""

import copy
import inspect
import unittest

from poleribbons import errors
from poleribbons.classes import class_of
from poleribbons.dances import Dance
from poleribbons.evening import Evening
from poleribbons.forall import hangs_at, least_apart, least_whole
from poleribbons.free import kernel_of, lifting
from poleribbons.heaps import Heap
from poleribbons.layers import hangs, is_lot, least_lot
from poleribbons.programmes import Programme
from poleribbons.ribbons import crossings, over, ribbons, under
from poleribbons.rings import is_ring, ring_of
from poleribbons.rules import Rule
from poleribbons.sooner import sooner
from poleribbons.words import Word
from calls import CHANGING_CALLS, CLASS_CALLS, FUNCTION_CALLS, MADE, METHOD_CALLS, NO, RULE, led
from cloths import BIG_DANCES, DANCES
from samples import FORALL_RULES, LONG, ODD_VALUES
from test_interface import FUNCTIONS, METHODS

TRUTHS = {"is_integer", "is_count", "is_number", "are_bits", "is_side", "is_reader", "is_ribbon", "same_cloth",
          "are_crossings", "lies_above", "hangs", "is_lot", "is_way", "is_ring", "rule_at", "hangs_at", "is_lot_at",
          "is_picture", "alike", "alike_seen", "told_always", "are_reasons", "is_left", "are_forms", "is_refusal",
          "is_lifting", "same", "is_meeting", "is_order", "above", "ahead", "holds", "__contains__", "__call__"}


def is_own(thing):
    """Whether a value is an object of the package."""
    return type(thing).__module__.startswith("poleribbons.")


def plain(thing):
    """A value told by tuples and texts alone, objects by all that they hold."""
    if isinstance(thing, dict):
        return ("dict", [(plain(key), plain(value)) for key, value in thing.items()])
    if isinstance(thing, (list, tuple)):
        return (type(thing).__name__, [plain(part) for part in thing])
    if is_own(thing):
        return (type(thing).__name__, plain(vars(thing)))
    return (type(thing).__name__, repr(thing))


def changeable(thing):
    """All lists and dicts in a value, not those that objects hold."""
    found = [thing] if isinstance(thing, (list, dict)) else []
    parts = list(thing) + list(thing.values()) if isinstance(thing, dict) else thing
    for part in parts if isinstance(thing, (list, tuple, dict)) else []:
        found += changeable(part)
    return found


def held(thing):
    """All lists and dicts in a value, those that objects hold, too."""
    found = changeable(thing)
    for part in [thing] + (list(thing) if isinstance(thing, (list, tuple)) else []):
        if is_own(part):
            for value in vars(part).values():
                found += held(value)
    return found


def all_calls():
    """All calls but those that change an object: its name, the object or None, what is called, and arguments."""
    for act, *arguments in FUNCTION_CALLS + CLASS_CALLS:
        yield act.__name__, None, act, copy.deepcopy(arguments)
    for make, name, *arguments in METHOD_CALLS:
        thing = make()
        yield name, thing, getattr(thing, name), [one if callable(one) else copy.deepcopy(one) for one in arguments]


class Calls(unittest.TestCase):
    def test_all_of_the_interface_is_called(self):
        called = {act.__name__ for act, *_ in FUNCTION_CALLS + CLASS_CALLS}
        listed = {line.split("(")[0] for lines in FUNCTIONS.values() for line in lines}
        self.assertEqual(called, listed)
        called = {(type(make()).__name__, name) for make, name, *_ in METHOD_CALLS + CHANGING_CALLS}
        for path, lines in METHODS.items():
            for line in lines:
                self.assertIn((path.split(".")[1], line.split("(")[0]), called)

    def test_no_call_changes_what_it_is_passed_or_its_object(self):
        for name, thing, act, arguments in all_calls():
            before = plain([thing] + arguments)
            act(*arguments)
            self.assertEqual(plain([thing] + arguments), before, name)

    def test_calls_that_change_an_object_change_no_argument(self):
        for make, name, *arguments in CHANGING_CALLS:
            thing, before = make(), plain(arguments)
            if name == "redo":
                thing.undo()
            was = plain(thing)
            getattr(thing, name)(*arguments)
            self.assertEqual(plain(arguments), before)
            self.assertNotEqual(plain(thing), was)

    def test_asking_twice_tells_the_same(self):
        for name, thing, act, arguments in all_calls():
            first = plain(act(*arguments))
            self.assertEqual(plain(act(*arguments)), first, name)

    def test_all_that_is_returned_is_new(self):
        for name, thing, act, arguments in all_calls():
            answer = act(*arguments)
            kept = plain(answer)
            found = changeable(answer)
            ids = [id(part) for part in found]
            self.assertEqual(len(set(ids)), len(ids), name)
            self.assertFalse(set(ids) & {id(part) for part in held([thing] + arguments)}, name)
            for part in found:
                part.clear()
            self.assertEqual(plain(act(*arguments)), kept, name)

    def test_objects_copy_what_they_are_given(self):
        pieces, acts = [(0, 1, True, True)], [("on", 1, RULE)]
        heap, programme = Heap(pieces), Programme(2, 2, acts)
        pieces.clear()
        acts.append(("back", 1, NO))
        self.assertEqual([list(heap), len(programme)], [[(0, 1, True, True)], 1])

    def test_keys_are_ascending(self):
        many = 0
        for name, thing, act, arguments in all_calls():
            for part in changeable(act(*arguments)):
                if isinstance(part, dict):
                    self.assertEqual(list(part), sorted(part), name)
                    many += 1
        self.assertGreater(many, 6)

    def test_truths_are_true_or_false(self):
        had = set()
        for name, thing, act, arguments in all_calls():
            if name in TRUTHS:
                answer = act(*arguments)
                self.assertTrue(answer is True or answer is False, name)
                had.add(name)
        self.assertEqual(had, TRUTHS)

    def test_numbers_are_no_truths(self):
        for name, thing, act, arguments in all_calls():
            if name not in TRUTHS:
                self.assertNotIsInstance(act(*arguments), bool, name)


class Equal(unittest.TestCase):
    def test_objects_are_equal_to_their_likes_alone(self):
        for make in MADE:
            one = make()
            for other in MADE:
                self.assertIs(one == other(), make is other)
                self.assertIs(one != other(), make is not other)
            for thing in ODD_VALUES:
                same = isinstance(thing, type(one)) and plain(one) == plain(thing)
                self.assertIs(one == thing, same)
                self.assertIs(one != thing, not same)


class Errors(unittest.TestCase):
    def test_wrong_comes_first_and_tells_the_first_place(self):
        for make, *good in CLASS_CALLS + [(Rule.by, "suns", Word("", "1")), (Rule.always, True)]:
            for place in range(len(good)):
                for thing in (None, -1, [None], object()):
                    for rest in (good[place + 1:], [object()] * (len(good) - place - 1)):
                        with self.assertRaises(errors.Wrong) as context:
                            make(*good[:place], thing, *rest)
                        self.assertEqual(context.exception.place, place)

    def test_errors_of_ribbon_error_are_raised_by_their_own_class(self):
        # RibbonError itself is raised nowhere.
        for thing in ODD_VALUES[:60]:
            evening = led()
            for act in (evening.do, evening.needed, evening.above, Rule.of):
                try:
                    act(thing)
                except errors.RibbonError as error:
                    self.assertEqual(type(error).__bases__, (errors.RibbonError,))
        self.assertIn("RibbonError", dict(inspect.getmembers(errors)))


class Guarantees(unittest.TestCase):
    def test_classes(self):
        # Promise 5: two ribbons of one side and one class lie above the same ones, and below the same ones.
        for rule in FORALL_RULES:
            dance = Dance(8, 8, 3, rule)
            for side in ("sun", "moon"):
                for n in range(8):
                    one, other = (side, n), (side, class_of(rule, n))
                    self.assertEqual([over(dance, one), under(dance, one)], [over(dance, other), under(dance, other)])

    def test_papers(self):
        # Promise 7: a ring if, and only if, there is no lot; then no ribbon can be taken away from the kernel either.
        for dance in DANCES + BIG_DANCES:
            ring, lot, whole = ring_of(dance), least_lot(dance), hangs(dance)
            self.assertEqual([ring is not None, lot is None], [whole, whole])
            self.assertIs(is_ring(dance, ring) if whole else is_lot(dance, lot), True)
            if whole:
                self.assertEqual([kernel_of(dance), lifting(dance)], [ribbons(dance), []])

    def test_more_rounds(self):
        # Promise 8.
        for rule in FORALL_RULES:
            for s, m in [(1, 1), (2, 3), (LONG, 2), (LONG, LONG + 1)]:
                first = sooner(rule, s, m)
                for r in range(1, 9):
                    self.assertIs(hangs_at(rule, s, m, r), first is not None and r >= first)

    def test_more_dancers_can_part_a_cloth_or_make_it_hang_together(self):
        self.assertEqual([hangs_at(RULE, 1, n, 2) for n in (1, 2, 3, 4)], [True, False, True, False])
        self.assertEqual([least_whole(RULE, moons=2), least_apart(RULE, moons=2)[:2]], [(1, 3, 2), (1, 2)])

    def test_crossings_of_evenings_and_of_dances(self):
        for dance in DANCES:
            evening = Evening(dance.suns, dance.moons, dance.rule)
            evening.finish(dance.rounds)
            laid = {pair: "" for pair in crossings(dance)}
            for r, i, j in evening.laid():
                laid[i, j] += "01"[evening.above((r, i, j))]
            self.assertEqual(laid, crossings(dance))


if __name__ == "__main__":
    unittest.main()
