import copy
import unittest

from poleribbons import notation
from poleribbons.dances import Dance
from poleribbons.evening import Evening
from poleribbons.heaps import Heap, heap_of
from poleribbons.notation import show_crossings, show_dance, show_deed, show_heap, show_log, show_meeting, show_rule
from poleribbons.notation import show_programme, show_word
from poleribbons.programmes import Programme
from poleribbons.ribbons import crossings
from poleribbons.rules import Rule
from poleribbons.words import Word
from samples import RULES, turns
from shown import ALL, deep_rules

RULE = RULES[13]


class Shown(unittest.TestCase):
    def test_all_texts_written_by_hand(self):
        for kind, pairs in ALL.items():
            show = getattr(notation, "show_" + kind)
            for thing, text in pairs:
                self.assertEqual(show(thing), text)
                self.assertIs(type(show(thing)), str)

    def test_the_examples(self):
        self.assertEqual(show_word(Word("11", "100")), "11(100)")
        self.assertEqual(show_rule(RULE), "(turns (10) unlike suns (10))")
        self.assertEqual(show_meeting((0, 1, 2)), "0.1.2")
        self.assertEqual(show_dance(Dance(2, 3, 2, turns("", "10"))), "2 3 2 turns (10)")
        self.assertEqual(show_heap(Heap([(0, 1, True, True)])), "+0.1a")
        self.assertEqual(show_heap(heap_of(Dance(2, 2, 1, RULE))), "+0.0b +0.1a +1.0a +1.1b")
        self.assertEqual(show_crossings({(0, 1): "10", (0, 0): "00"}), "0.0 00\n0.1 10")
        self.assertEqual(show_programme(Programme(2, 2, [("on", 2, turns("", "10"))])), "2 2\non 2 turns (10)")
        self.assertEqual(show_deed(("rule", turns("", "10").parts())), "rule turns (10)")

    def test_heaps_in_their_own_order(self):
        pieces = [(1, 1, True, True), (0, 0, True, True), (0, 1, False, False), (2, 2, True, True), (2, 2, True, False)]
        self.assertEqual(show_heap(Heap(pieces)), "+0.0a +1.1a -0.1b")
        self.assertEqual(show_heap(Heap(pieces) * ~Heap(pieces)), "none")
        dance = Dance(8, 8, 3, RULES[16])
        words = show_heap(heap_of(dance)).split(" ")
        self.assertEqual(words, [f"+{i}.{j}{'ab'[not above]}" for i, j, above, _ in heap_of(dance)])
        self.assertEqual(len(words), 192)

    def test_crossings_in_the_order_of_their_keys(self):
        laid = crossings(Dance(12, 11, 2, RULE))
        expected = [f"{i}.{j} {laid[i, j]}" for i in range(12) for j in range(11)]
        self.assertEqual(show_crossings(laid).split("\n"), expected)
        self.assertEqual(show_crossings(dict(reversed(list(laid.items())))).split("\n"), expected)

    def test_rules_as_they_are_put_together(self):
        for rule in RULES:
            for how, sign in ((rule & RULE, "and"), (rule | RULE, "or"), (rule ^ RULE, "unlike")):
                self.assertEqual(show_rule(how), f"({show_rule(rule)} {sign} {show_rule(RULE)})")
            self.assertEqual(show_rule(~rule), "not " + show_rule(rule))
        # Deeper ones than readers read are shown all the same.
        for rule, text in deep_rules(30):
            self.assertEqual(show_rule(rule), text)

    def test_the_greatest_numbers(self):
        self.assertEqual(show_dance(Dance(10 ** 999, 1, 10 ** 999, Rule.always(True))),
                         "1" + "0" * 999 + " 1 1" + "0" * 999 + " yes")

    def test_logs(self):
        evening = Evening(2, 2, RULE)
        self.assertEqual(show_log(evening), "none")
        evening.do(("rule", (~RULE).parts()))
        self.assertEqual(show_log(evening), "rule not (turns (10) unlike suns (10))")
        evening.finish(1)
        evening.do(("take", (0, 1, 1)))
        self.assertEqual(show_log(evening), "rule not (turns (10) unlike suns (10))\nlay 0.0.0\nlay 0.0.1\nlay 0.1.0\n"
                         "lay 0.1.1\ntake 0.1.1")
        for _ in range(6):
            evening.undo()
        self.assertEqual(show_log(evening), "none")

    def test_what_is_passed_stays(self):
        laid = {(0, 1): "10", (0, 0): "00"}
        passed = copy.deepcopy(list(laid.items()))
        show_crossings(laid)
        self.assertEqual(list(laid.items()), passed)


if __name__ == "__main__":
    unittest.main()
