import random
import unittest
from itertools import permutations, product

from poleribbons.dances import Dance
from poleribbons.errors import TooMany, Wrong
from poleribbons.heaps import Heap, heap_of
from poleribbons.rules import Rule
from poleribbons.words import Word
from cloths import SIZES
from samples import LONG, ODD_VALUES, RULES

RULE = RULES[13]
A, B, C = (0, 0, True, True), (1, 1, False, True), (0, 1, True, True)
OFF_A, OFF_B, OFF_C = (0, 0, True, False), (1, 1, False, False), (0, 1, True, False)
LOW_A = (0, 0, False, True)

NO_PIECES = ODD_VALUES + [
    (0, 0, True), (0, 0, True, True, True), (0, 0, 1, True), (0, 0, True, 1), (0, 0, 0, 0), (True, 0, True, True),
    (0, False, True, True), (-1, 0, True, True), (0, -1, True, True), [0, 0, True, True], ("0", 0, True, True),
    (0, None, True, True), (0, 0, None, True), (0, 0, True, None), ((0, 0), True, True), (0, 0, "True", True),
    (0, (0,), True, True), ([0], 0, True, True), (0, 0, [], True), ((0, 0, True, True),), b"0000", "0000"]


def undone(piece):
    return piece[:3] + (not piece[3],)


def touch(one, other):
    return one[0] == other[0] or one[1] == other[1]


def steps_from(pieces):
    """The lists to which one exchange of neighbours, or taking two neighbours out, leads."""
    for at in range(len(pieces) - 1):
        one, other = pieces[at], pieces[at + 1]
        if not touch(one, other):
            yield pieces[:at] + (other, one) + pieces[at + 2:]
        if one == undone(other):
            yield pieces[:at] + pieces[at + 2:]


def all_reached(pieces):
    """All lists to which such steps lead."""
    found, waiting = {tuple(pieces)}, [tuple(pieces)]
    while waiting:
        for further in steps_from(waiting.pop()):
            if further not in found:
                found.add(further)
                waiting.append(further)
    return found


def shortest(pieces):
    """The shortest lists to which such steps lead: all orders of what is left."""
    found = all_reached(pieces)
    least = min(len(one) for one in found)
    return {one for one in found if len(one) == least}


def levels_by_hand(order):
    """The levels of pieces of which none undo one another."""
    levels = []
    for at, piece in enumerate(order):
        levels.append(1 + max([levels[other] for other in range(at) if touch(order[other], piece)], default=-1))
    return [sorted(piece for piece, level in zip(order, levels) if level == number)
            for number in range(max(levels, default=-1) + 1)]


def small_lists():
    """Lists of few pieces of two dancers on each side, many of which undo one another."""
    chance = random.Random(70)
    found = [[], [A], [A, OFF_A], [A, B, OFF_A], [A, C, OFF_A], [A, A], [A, LOW_A], [A, C, OFF_C, OFF_A],
             [A, B, OFF_B, OFF_A], [OFF_A, A], [A, LOW_A, OFF_A], [A, A, OFF_A], [B, A], [A, OFF_C, B, OFF_A]]
    for many in range(2, 8):
        for _ in range(60):
            found.append([(chance.randrange(2), chance.randrange(2), chance.random() < 0.7, chance.random() < 0.5)
                          for _ in range(many)])
    return found


def great_lists():
    """Longer lists, of up to six dancers on each side."""
    chance = random.Random(71)
    return [[(chance.randrange(dancers), chance.randrange(dancers), chance.random() < 0.8, chance.random() < 0.5)
             for _ in range(many)] for dancers in (2, 3, 6) for many in (20, 60, 150) for _ in range(6)]


def shuffled(pieces, seed):
    """A list with the same Heap: neighbours exchanged, and neighbours that undo one another put in."""
    chance = random.Random(seed)
    pieces = list(pieces)
    for _ in range(120):
        at = chance.randrange(len(pieces) + 1)
        if chance.random() < 0.15:
            piece = (chance.randrange(4), chance.randrange(4), chance.random() < 0.5, chance.random() < 0.5)
            pieces[at:at] = [piece, undone(piece)]
        elif at + 1 < len(pieces) and not touch(pieces[at], pieces[at + 1]):
            pieces[at:at + 2] = [pieces[at + 1], pieces[at]]
    return pieces


class Made(unittest.TestCase):
    def test_of_no_pieces(self):
        for heap in (Heap(), Heap([]), Heap(()), Heap([A, OFF_A]), heap_of(Dance(1, 1, 1, RULE)) ** 0):
            self.assertEqual([len(heap), list(heap), heap.levels(), heap.firsts(), heap.lasts()], [0, [], [], [], []])
            self.assertEqual(heap.orders(), 1)
            self.assertIs(heap == Heap(), True)
            self.assertIs(heap.is_order([]), True)

    def test_of_lists_and_of_tuples(self):
        for pieces in small_lists():
            self.assertEqual(list(Heap(pieces)), list(Heap(tuple(pieces))))
            self.assertEqual(list(Heap(pieces=pieces)), list(Heap(pieces)))

    def wrong(self, thing):
        with self.assertRaises(Wrong) as context:
            Heap(thing)
        self.assertEqual(context.exception.place, 0)

    def test_wrong_for_what_is_no_list_or_tuple_of_pieces(self):
        for thing in ODD_VALUES:
            if thing not in ([], ()):
                self.wrong(thing)
        for thing in NO_PIECES:
            self.wrong([thing])
            self.wrong((A, thing))
            self.wrong([thing, B])
            self.wrong([A, OFF_A, thing])
        for thing in [A, {A}, {A: B}, {A: 0}, iter([A]), "A", [[A]], Heap([A]), [Heap([A])], [list(A)]]:
            self.wrong(thing)

    def test_the_list_that_was_passed_may_be_changed_afterwards(self):
        pieces = [A, B, C]
        heap = Heap(pieces)
        self.assertEqual(pieces, [A, B, C])
        pieces.append(OFF_C)
        pieces[0] = LOW_A
        self.assertEqual(list(heap), list(Heap([A, B, C])))
        self.assertEqual(heap.levels(), [[A, B], [C]])

    def test_numbers_of_forty_digits(self):
        far = (LONG, LONG + 1, True, True)
        heap = Heap([far, (LONG, 5, False, True), (5, LONG + 1, True, False), (6, 7, True, True)])
        self.assertEqual(heap.levels(),
                         [[(6, 7, True, True), far], [(5, LONG + 1, True, False), (LONG, 5, False, True)]])
        self.assertEqual(heap.pieces_of(("sun", LONG)), [far, (LONG, 5, False, True)])
        self.assertEqual(heap.pieces_of(("moon", LONG + 1)), [far, (5, LONG + 1, True, False)])
        self.assertEqual(list(heap * ~heap), [])


class Left(unittest.TestCase):
    def test_against_all_steps_that_can_be_taken(self):
        for pieces in small_lists():
            left = shortest(pieces)
            found = list(Heap(pieces))
            self.assertIn(tuple(found), left)
            for order in left:
                self.assertEqual(found, sum(levels_by_hand(order), []))

    def test_pieces_that_undo_one_another(self):
        self.assertEqual(list(Heap([A, OFF_A])), [])
        self.assertEqual(list(Heap([OFF_A, A])), [])
        self.assertEqual(list(Heap([A, B, OFF_A])), [B])
        self.assertEqual(list(Heap([A, C, OFF_A])), [A, C, OFF_A])
        self.assertEqual(list(Heap([A, C, OFF_C, OFF_A])), [])
        self.assertEqual(list(Heap([A, LOW_A, OFF_A])), [A, LOW_A, OFF_A])
        self.assertEqual(list(Heap([A, (0, 0, False, False)])), [A, (0, 0, False, False)])
        self.assertEqual(list(Heap([A, B, C, OFF_C, OFF_A, OFF_B])), [])
        self.assertEqual(list(Heap([C, A, B, OFF_A, OFF_C])), [C, B, OFF_C])

    def test_what_is_laid_twice_stays(self):
        for piece in (A, OFF_A, C):
            self.assertEqual(list(Heap([piece, piece])), [piece, piece])
            self.assertEqual(list(Heap([piece] * 5)), [piece] * 5)
            self.assertEqual(list(Heap([piece] * 3 + [undone(piece)])), [piece] * 2)
        self.assertEqual(Heap([A, A, B]).levels(), [[A, B], [A]])

    def test_the_same_heap_whatever_steps_are_taken(self):
        # Promise 9.
        for number, pieces in enumerate(small_lists() + great_lists()):
            heap = Heap(pieces)
            for seed in range(3):
                other = Heap(shuffled(pieces, 10 * number + seed))
                self.assertEqual(list(other), list(heap))
                self.assertIs(other == heap, True)
                self.assertIs(other != heap, False)

    def test_other_heaps_are_not_equal(self):
        lists = small_lists()[:120]
        kept = [(Heap(pieces), shortest(pieces)) for pieces in lists]
        for one, left in kept:
            for other, right in kept:
                self.assertIs(one == other, left == right)
                self.assertIs(one != other, left != right)

    def test_order_and_levels(self):
        for pieces in small_lists() + great_lists():
            heap = Heap(pieces)
            self.assertEqual(heap.levels(), levels_by_hand(list(heap)))
            self.assertEqual(sum(heap.levels(), []), list(heap))
            self.assertEqual(len(heap), len(list(heap)))
        heap = Heap([(2, 0, True, True), (1, 1, True, True), (0, 2, True, True), (3, 1, False, True),
                     (0, 9, True, False)])
        self.assertEqual(heap.levels(), [[(0, 2, True, True), (1, 1, True, True), (2, 0, True, True)],
                                         [(0, 9, True, False), (3, 1, False, True)]])

    def test_equal_to_nothing_else(self):
        heap = Heap([A, B])
        for thing in ODD_VALUES + [[A, B], (A, B), list(heap), heap.levels(), {A: B}, A, Heap]:
            self.assertIs(heap == thing, False)
            self.assertIs(thing == heap, False)
            self.assertIs(heap != thing, True)


class Asked(unittest.TestCase):
    def test_iterated_over_in_its_order(self):
        for pieces in great_lists():
            heap = Heap(pieces)
            self.assertEqual([piece for piece in heap], list(heap))
            self.assertEqual(list(zip(heap, heap)), [(piece, piece) for piece in heap])
            self.assertEqual({type(piece) for piece in heap} | {tuple}, {tuple})

    def test_in_with_any_value(self):
        heap = Heap([A, C, OFF_A, (1, 0, False, True), B, OFF_B])
        self.assertEqual(len(heap), 4)
        for piece in product(range(3), range(3), (True, False), (True, False)):
            self.assertIs(piece in heap, piece in list(heap))
        for thing in NO_PIECES:
            self.assertIs(thing in heap, False)
        heap = Heap([(0, 1, True, False), (1, 0, False, True)])
        for thing in [(0, 1, 1, 0), (False, True, True, False), (1, 0, 0, 1), (0, True, True, False),
                      [0, 1, True, False], ((0, 1, True, False),), (0, 1, True)]:
            self.assertIs(thing in heap, False)

    def test_firsts_and_lasts_of_all_orders(self):
        for pieces in small_lists():
            orders = shortest(pieces)
            heap = Heap(pieces)
            self.assertEqual(heap.firsts(), sorted({order[0] for order in orders if order}))
            self.assertEqual(heap.lasts(), sorted({order[-1] for order in orders if order}))
        for pieces in great_lists():
            heap = Heap(pieces)
            order = list(heap)
            self.assertEqual(heap.firsts(), heap.levels()[0] if order else [])
            self.assertEqual(heap.lasts(), sorted(piece for at, piece in enumerate(order)
                                                  if not any(touch(piece, other) for other in order[at + 1:])))

    def test_pieces_of_a_dancer_in_their_order(self):
        for pieces in small_lists():
            heap = Heap(pieces)
            for order in shortest(pieces):
                for n in range(3):
                    self.assertEqual(heap.pieces_of(("sun", n)), [piece for piece in order if piece[0] == n])
                    self.assertEqual(heap.pieces_of(("moon", n)), [piece for piece in order if piece[1] == n])

    def test_pieces_of_any_other_value(self):
        heap = Heap([A, B, C, (1, 0, True, True)])
        self.assertEqual(heap.pieces_of(("sun", 1)), [B, (1, 0, True, True)])
        for thing in ODD_VALUES + [("sun", 7), ("sun", -1), ("sun", True), ("sun", False), ("suns", 1), ["sun", 1],
                                   ("sun", 1, 0), ("moon", "1"), ("sun", (1,)), ("sun", [1]), A, ("moon", LONG)]:
            self.assertEqual(heap.pieces_of(thing), [])

    def test_is_order_among_all_lists(self):
        for pieces in small_lists():
            heap, orders = Heap(pieces), shortest(pieces)
            if len(heap) <= 5:
                for order in permutations(list(heap)):
                    self.assertIs(heap.is_order(list(order)), order in orders)
            for order in list(orders)[:3]:
                self.assertIs(heap.is_order(list(order)), True)
                self.assertIs(heap.is_order(order), False)
                self.assertIs(heap.is_order(list(order) + [A, OFF_A]), False)
                self.assertIs(heap.is_order(list(order) + [A]), False)
                self.assertIs(heap.is_order(list(order)[:-1]), False if order else True)
                self.assertIs(heap.is_order([undone(piece) for piece in order]), not order)

    def test_is_order_with_any_value(self):
        heap = Heap([A, B, C])
        self.assertIs(heap.is_order([B, A, C]), True)
        for thing in ODD_VALUES:
            self.assertIs(heap.is_order(thing), False)
            self.assertIs(heap.is_order([A, B, thing]), False)
            self.assertIs(Heap().is_order(thing), thing == [] and type(thing) is list)
        for thing in [[A, B, list(C)], [A, B, (0, 1, 1, True)], [A, B, (0, 1, True, 1)], [A, B, (False, 1, True, True)],
                      (A, B, C), {A: 0, B: 1, C: 2}, [[A, B, C]], heap, [A, B, C, C], [C, A, B], [A, B, OFF_C]]:
            self.assertIs(heap.is_order(thing), False)

    def test_orders(self):
        for pieces in small_lists():
            self.assertEqual(Heap(pieces).orders(), len(shortest(pieces)))
        apart = [(n, n, True, True) for n in range(12)]
        self.assertEqual(Heap(apart).orders(), 479001600)
        self.assertEqual(Heap([A] * 12).orders(), 1)
        self.assertEqual(Heap([A] * 6 + [B] * 6).orders(), 924)
        self.assertEqual(heap_of(Dance(2, 2, 3, RULE)).orders(), 32)
        self.assertEqual(heap_of(Dance(3, 4, 1, RULE)).orders(), 462)

    def test_too_many_pieces_to_count_their_orders(self):
        for heap in (Heap([A] * 13), heap_of(Dance(1, 1, 13, RULE)), Heap([(n, n, True, True) for n in range(13)])):
            with self.assertRaises(TooMany) as context:
                heap.orders()
            self.assertEqual(context.exception.limit, 12)
        self.assertEqual(Heap([A] * 13 + [OFF_A]).orders(), 1)

    def test_what_is_returned_is_new(self):
        heap = Heap([A, B, C, OFF_A])
        for ask in (heap.levels, heap.firsts, heap.lasts, lambda: heap.pieces_of(("sun", 0)), lambda: list(heap)):
            first = ask()
            kept = [list(item) if isinstance(item, list) else item for item in first]
            inner = [item for item in first if isinstance(item, list)]
            self.assertEqual(len({id(item) for item in inner}), len(inner))
            for item in inner:
                item.clear()
            first.clear()
            self.assertEqual(ask(), kept)

    def test_asking_changes_nothing(self):
        heap, thing = Heap([A, B, C]), [B, A, C]
        answers = [[list(heap), len(heap), A in heap, heap.orders(), list(heap.swapped()), list(heap * heap),
                    list(~heap), list(heap ** 3), heap.is_order(thing), heap == Heap()] for _ in range(2)]
        self.assertEqual(answers[0], answers[1])
        self.assertEqual(thing, [B, A, C])


class Signs(unittest.TestCase):
    def test_one_behind_another(self):
        lists = small_lists()[:50] + great_lists()[:10]
        for one, other in product(lists, lists[::7]):
            before = [list(Heap(one)), list(Heap(other))]
            heap, two = Heap(one), Heap(other)
            self.assertEqual(list(heap * two), list(Heap(one + other)))
            self.assertEqual([list(heap), list(two)], before)
        self.assertEqual(list(Heap([A]) * Heap([C])), [A, C])
        self.assertEqual(list(Heap([C]) * Heap([A])), [C, A])

    def test_the_other_way_round(self):
        for pieces in small_lists() + great_lists():
            heap = Heap(pieces)
            self.assertEqual(list(~heap), list(Heap([undone(piece) for piece in pieces[::-1]])))
            self.assertEqual(len(heap * ~heap) + len(~heap * heap), 0)
            self.assertEqual(list(~~heap), list(heap))
        self.assertEqual(list(~Heap([A, C])), [OFF_C, OFF_A])

    def test_so_many_times(self):
        lists = small_lists()[:60:3]
        for pieces in lists:
            for power in range(13):
                self.assertEqual(list(Heap(pieces) ** power), list(Heap(pieces * power)))
        self.assertEqual(list(Heap([A, C, OFF_A]) ** 12), [A] + [C] * 12 + [OFF_A])
        self.assertEqual(list(Heap([A, C]) ** 0), [])
        self.assertEqual(len(heap_of(Dance(2, 2, 1, RULE)) ** 12), 48)

    def test_heaps_put_together_in_threes(self):
        lists = small_lists()[::40]
        for one, two, three in product(lists, repeat=3):
            a, b, c = Heap(one), Heap(two), Heap(three)
            self.assertEqual((a * b) * c, a * (b * c))
            self.assertEqual(~(a * b), ~b * ~a)
            self.assertIs(len(~a * b) == 0, a == b)

    def test_swapped(self):
        # Promise 10.
        for pieces in small_lists() + great_lists():
            heap = Heap(pieces)
            turned = [(j, i, not above, on) for i, j, above, on in pieces]
            self.assertEqual(list(heap.swapped()), list(Heap(turned)))
            self.assertEqual(list(heap.swapped().swapped()), list(heap))
            if len(heap) <= 12:
                self.assertEqual(heap.swapped().orders(), heap.orders())
        self.assertEqual(list(Heap([C, (2, 0, False, False)]).swapped()), [(0, 2, True, False), (1, 0, False, True)])


class OfDances(unittest.TestCase):
    def orders(self, dance):
        """Several orders in which the meetings can take place."""
        meetings = dance.meetings()
        yield meetings
        yield sum(dance.levels(), [])
        for seed in range(4):
            chance = random.Random(seed)
            order, left = [], list(meetings)
            while left:
                free = [one for one in left if not any(dance.ahead(other, one) for other in left)]
                order.append(chance.choice(free))
                left.remove(order[-1])
            yield order

    def test_of_the_meetings_in_several_orders(self):
        # Promise 9.
        for number, (s, m, r) in enumerate(SIZES):
            dance = Dance(s, m, r, RULES[number + 9])
            heap = heap_of(dance)
            self.assertEqual(len(heap), dance.size())
            for order in self.orders(dance):
                self.assertIs(dance.is_order(order), True)
                pieces = [(i, j, dance.rule(r, i, j, s, m), True) for r, i, j in order]
                self.assertEqual(list(heap), list(Heap(pieces)))
                self.assertIs(heap.is_order(pieces), True)

    def test_levels_are_those_of_the_dance(self):
        for s, m, r in SIZES + [(5, 4, 3), (8, 8, 3), (1, 8, 12)]:
            for rule in RULES[::4]:
                dance = Dance(s, m, r, rule)
                expected = [sorted((i, j, dance.above((r, i, j)), True) for r, i, j in level)
                            for level in dance.levels()]
                self.assertEqual(heap_of(dance).levels(), expected)

    def test_thirteen_rounds(self):
        heap = heap_of(Dance(1, 1, 13, Rule.by("rounds", Word("", "10"))))
        self.assertEqual([piece[2] for piece in heap], [True, False] * 6 + [True])

    def test_the_sides_exchanged(self):
        # Promise 10.
        for s, m, r in SIZES:
            for rule in RULES[::3]:
                dance = Dance(s, m, r, rule)
                self.assertEqual(heap_of(dance.swapped()), heap_of(dance).swapped())


if __name__ == "__main__":
    unittest.main()
