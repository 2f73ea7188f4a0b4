import random
import unittest

from poleribbons import notation, readers
from poleribbons.dances import Dance
from poleribbons.errors import Broken, NoText
from poleribbons.evening import Evening
from poleribbons.heaps import Heap, heap_of
from poleribbons.notation import show_log
from poleribbons.programmes import Programme
from poleribbons.readers import read_crossings, read_dance, read_deed, read_heap, read_log, read_meeting, read_rule
from poleribbons.readers import read_programme, read_word
from poleribbons.ribbons import are_crossings, crossings
from poleribbons.rules import Rule
from poleribbons.words import Word
from evenings import Model, some_deed
from samples import ODD_VALUES, RULES
from shown import ALL, LONGEST, TOO_LONG, deep_rules, is_text

RULE, YES = RULES[13], Rule.always(True)
SIGNS = "01290() .ab+-\nynotrlk"
RESULTS = {"word": Word, "rule": Rule, "meeting": tuple, "dance": Dance, "heap": Heap, "crossings": dict,
           "programme": Programme, "deed": tuple}


def near_texts(text, chance):
    """Texts that are like one: a sign more, less or another one, two parts exchanged or twice, and some more."""
    found = [text + more for more in (" ", "\n", "0", ")", ".", "a", "\n\n", " none")]
    found += [more + text for more in (" ", "\n", "0", "(", "not ", "+", "-", "not")]
    found += [text.upper(), text.replace(" ", "  "), text.replace(" ", ""), text.replace("\n", "\n\n"),
              text.replace(".", ". "), text.replace(".", ","), text.replace("(", "["), text.replace(" ", "\t"),
              "(" + text + ")",
              text.replace("\n", "\r\n"), text.replace(" ", "\n"), text.replace("\n", " "), text.replace(".", "")]
    places = chance.sample(range(len(text)), min(len(text), 25))
    for at in places:
        sign = chance.choice(SIGNS)
        found += [text[:at] + text[at + 1:], text[:at] + sign + text[at:], text[:at] + sign + text[at + 1:],
                  text[:at], text[at:]]
    for mark in (" ", "\n", "."):
        pieces = text.split(mark)
        at = chance.randrange(len(pieces))
        found += [mark.join(pieces[at:] + pieces[:at]), mark.join(pieces + pieces[at:at + 1]),
                  mark.join(pieces[:at] + pieces[at + 1:]), mark.join(sorted(pieces)), mark.join(reversed(pieces))]
    return found


class Checked(unittest.TestCase):
    def no_text(self, read, text):
        with self.assertRaises(NoText) as context:
            read(text)
        self.assertIs(context.exception.text, text)


class Read(Checked):
    def test_what_is_shown(self):
        for kind, pairs in ALL.items():
            read = getattr(readers, "read_" + kind)
            for thing, text in pairs:
                found = read(text)
                self.assertIs(type(found), RESULTS[kind])
                self.assertEqual(found, thing)

    def test_what_is_shown_of_other_things(self):
        for rule in RULES:
            self.assertEqual(read_rule(notation.show_rule(rule)), rule)
            for s, m, r in [(2, 3, 2), (1, 1, 1), (8, 8, 3), (3, 1, 5)]:
                dance = Dance(s, m, r, rule)
                self.assertEqual(read_dance(notation.show_dance(dance)), dance)
                self.assertEqual(read_heap(notation.show_heap(heap_of(dance))), heap_of(dance))
                laid = crossings(dance)
                self.assertEqual(list(read_crossings(notation.show_crossings(laid)).items()), list(laid.items()))
                programme = Programme(s, m, [("on", r, rule), ("back", r + 9, ~rule)])
                self.assertEqual(read_programme(notation.show_programme(programme)), programme)
                self.assertEqual(read_deed("lay " + notation.show_meeting((r, s, m))), ("lay", (r, s, m)))

    def test_any_values(self):
        for kind in ALL:
            read = getattr(readers, "read_" + kind)
            for thing in ODD_VALUES + [pair[0] for pairs in ALL.values() for pair in pairs]:
                self.no_text(read, thing)
            for _, text in ALL[kind]:
                for thing in (text.encode(), [text], (text,), {text: text}, [sign for sign in text], text.split(" ")):
                    self.no_text(read, thing)

    def test_texts_of_other_kinds(self):
        for kind in ALL:
            read = getattr(readers, "read_" + kind)
            for other, pairs in ALL.items():
                for _, text in pairs if other != kind else []:
                    self.no_text(read, text)

    def test_texts_that_are_like_one(self):
        # What is read is just what is shown; what is not read has signs that show nothing, or stands in another order.
        chance = random.Random(92)
        for kind, pairs in ALL.items():
            read, show = getattr(readers, "read_" + kind), getattr(notation, "show_" + kind)
            had = {True: 0, False: 0}
            for _, text in pairs:
                for other in near_texts(text, chance):
                    try:
                        found = read(other)
                    except NoText as error:
                        self.assertIs(error.text, other)
                        if kind not in ("heap", "crossings"):
                            self.assertIs(is_text(kind, other), False, other)
                        had[False] += 1
                    else:
                        self.assertEqual(show(found), other)
                        self.assertIs(is_text(kind, other), True, other)
                        had[True] += 1
            self.assertTrue(all(had.values()), kind)

    def test_nothing_that_is_returned_is_kept(self):
        text = "0.0 0\n0.1 1"
        read_crossings(text).clear()
        self.assertEqual(list(read_crossings(text).items()), [((0, 0), "0"), ((0, 1), "1")])


class Words(Checked):
    def test_other_texts(self):
        for text in ["", "10", "()", "1()", "(1", "1)", "1(0", "1(0))", "((1)", "(1)(1)", "1 (0)", "1( 0)", "(2)",
                     "a(1)", "(1)\n", "\n(1)", " (1)", "(1) ", "1(0)1", "(01", ")(", ")1("]:
            self.no_text(read_word, text)

    def test_again_is_kept_as_it_is_written(self):
        self.assertEqual(read_word("00(0000)"), Word("00", "0000"))


class Rules(Checked):
    def test_other_texts(self):
        for text in ["", "not", "not ", "notyes", "not  yes", "Yes", "yes ", " yes", "yesno", "noyes", "nono", "true",
                     "(yes)", "yes and no", "(yes and no", "yes and no)", "(yes and  no)", "( yes and no)",
                     "(yes and no )", "(yes xor no)", "(yes andno)", "(yes and no and yes)", "(yes and)", "(and no)",
                     "turns", "turns ", "turns(10)", "turns  (10)", "turns 10", "turns ()", "turns (2)", "sun (10)",
                     "Turns (10)", "turns (10) ", "turns (10)\n", "(turns (10))", "not(yes and no)", "(yes\nand no)",
                     "always yes", "not turns", "((yes and no)", "(yes and no))", "()", "( and )", "turns (10)(10)"]:
            self.no_text(read_rule, text)

    def test_twenty_and_twenty_one_deep(self):
        for rule, text in deep_rules(20):
            self.assertEqual(read_rule(text), rule)
            self.assertEqual(read_dance("1 1 1 " + text), Dance(1, 1, 1, rule))
            self.assertEqual(read_deed("rule " + text), ("rule", rule.parts()))
            self.assertEqual(read_programme("1 1\non 1 " + text), Programme(1, 1, [("on", 1, rule)]))
            self.assertEqual(read_log(1, 1, YES, "rule " + text).rule, rule)
        for rule, text in deep_rules(21) + deep_rules(40):
            self.no_text(read_rule, text)
            self.no_text(read_dance, "1 1 1 " + text)
            self.no_text(read_deed, "rule " + text)
            self.no_text(read_programme, "1 1\non 1 " + text)
            self.no_text(lambda whole: read_log(1, 1, YES, whole), "rule " + text)

    def test_endless_depth(self):
        for text in ["not " * 9999 + "yes", "(" * 9999, "(" * 9999 + "yes" + " and no)" * 9999,
                     "(yes and " * 9999 + "no"]:
            self.no_text(read_rule, text)


class Numbers(Checked):
    def test_forty_and_forty_one_digits(self):
        n, big = LONGEST, TOO_LONG
        self.assertEqual(read_meeting(f"{n}.{n}.{n}"), (n, n, n))
        self.assertEqual(read_dance(f"{n} {n} {n} yes"), Dance(n, n, n, YES))
        self.assertEqual(read_heap(f"+{n}.{n}a"), Heap([(n, n, True, True)]))
        self.assertEqual(read_programme(f"{n} {n}\non {n} yes"), Programme(n, n, [("on", n, YES)]))
        self.assertEqual(read_deed(f"take {n}.{n}.{n}"), ("take", (n, n, n)))
        for text in [f"{big}.0.0", f"0.{big}.0", f"0.0.{big}", "0" * 41 + ".0.0"]:
            self.no_text(read_meeting, text)
            self.no_text(read_deed, "lay " + text)
        for text in [f"{big} 1 1 yes", f"1 {big} 1 yes", f"1 1 {big} yes", "9" * 5000 + " 1 1 yes"]:
            self.no_text(read_dance, text)
        for text in [f"+{big}.0a", f"-0.{big}b", f"+0.0a +0.{big}a"]:
            self.no_text(read_heap, text)
        for text in [f"{big} 1", f"1 {big}", f"1 1\nback {big} no"]:
            self.no_text(read_programme, text)
        self.no_text(read_crossings, f"0.{big} 1")
        self.no_text(read_crossings, f"0.{n} 1")

    def test_a_nought_ahead(self):
        for text in ["00.0.0", "0.01.0", "0.0.00", "-1.0.0", "+1.0.0", "1_0.0.0", "0x1.0.0", "1x.0.0", "0.0", "0.0.0.0",
                     "..", "0..0", "a.b.c", "0.0.0\n", " 0.0.0", "0. 0.0", "1e1.0.0", "0,0,0", ""]:
            self.no_text(read_meeting, text)
        for text in ["0 1 1 yes", "1 0 1 yes", "1 1 0 yes", "01 1 1 yes", "1 1 1", "1 1 yes", "1 1 1  yes",
                     "1  1 1 yes", " 1 1 1 yes", "1 1 1 1 yes", "1 1 1 yes ", "1\n1 1 yes", "-1 1 1 yes", "1.1.1 yes",
                     "", "   "]:
            self.no_text(read_dance, text)

    def test_heaps(self):
        for text in ["", "None", "none ", "none none", "+0.0a none", "+0.0", "0.0a", "+0.0c", "*0.0a", "+0.0ab",
                     "++0.0a", "+00.0a", "+0.00a", "+0.0.0a", "+0a", "+0.0a  +0.1a", "+0.0a\n+0.1a", "+0.0a ", " +0.0a",
                     "+-0.0a", "+0.0A", "+.a", "+a", "+", "a", "-", "+0. 0a"]:
            self.no_text(read_heap, text)

    def test_heaps_in_another_order_or_not_what_is_left(self):
        self.assertEqual(len(read_heap("+0.1a +1.0a")), 2)
        for text in ["+1.0a +0.1a", "+0.0a -0.0a", "+0.0a -0.0a +1.1b", "+0.1a +0.0a +1.0a +1.1a -1.1a",
                     "+10.10a +2.2a", "-0.0a +0.0a", "+0.0b +1.0a +0.1a +1.1b", "+1.1a +0.0a +0.1a"]:
            self.no_text(read_heap, text)
        # Level by level: the first and the last piece of this text do not touch, but the one between touches both.
        self.assertEqual(list(read_heap("+1.1a +0.1a +0.0a")),
                         [(1, 1, True, True), (0, 1, True, True), (0, 0, True, True)])

    def test_crossings(self):
        for text in ["", "0.0", "0.0 ", "0.0 2", "0.0  1", "0.0 1\n", "\n0.0 1", " 0.0 1", "0.0 1 ", "00.0 1", "0.00 1",
                     "0 1", "0.0.0 1", "0.1 1", "1.0 1", "0.0 1\n1.1 1", "0.0 1\n0.1 10", "0.0 1\n0.0 1",
                     "0.0 1\n0.0 0", "0.1 1\n0.0 1", "0.0 1\n1.0 1\n0.1 1\n1.1 1", "0.0 1 0.1 1", "0.0 1\n\n0.1 1",
                     "0.0 1\r\n0.1 1", "none", "0.0:1", "0.0 one", "0.0 1\n0.10 1\n0.1 1"]:
            self.no_text(read_crossings, text)
        self.assertIs(are_crossings(read_crossings("0.0 1\n0.1 1\n1.0 1\n1.1 1")), True)

    def test_programmes(self):
        for text in ["", "2", "2 2 2", "0 2", "2 0", "02 2", "2  2", "2 2 ", "2 2\n", "\n2 2", "2 2\non 1 yes\n",
                     "2 2\non 0 yes", "2 2\non 01 yes", "2 2\nback 1", "2 2\nback yes", "2 2\non 1  yes",
                     "2 2\noff 1 yes", "2 2\nOn 1 yes", "2 2\n on 1 yes", "2 2 on 1 yes", "on 1 yes\n2 2", "on 1 yes",
                     "2 2\n\non 1 yes", "2 2\nrule yes", "2 2\non 1 1 yes", "none"]:
            self.no_text(read_programme, text)

    def test_deeds(self):
        for text in ["", "lay", "take", "rule", "lay ", "rule ", "lay 0.0", "lay 0.0.0 ", "lay  0.0.0", " lay 0.0.0",
                     "lay yes", "rule 0.0.0", "Lay 0.0.0", "put 0.0.0", "lay 0.0.0\n", "lay 0.0.0\nlay 0.0.1", "0.0.0",
                     "yes", "lay0.0.0", "rule  yes", "rule yes ", "rule not", "undo", "lay 00.0.0", "none"]:
            self.no_text(read_deed, text)


class Logs(Checked):
    def no_log(self, text):
        self.no_text(lambda whole: read_log(2, 2, RULE, whole), text)

    def broken(self, line, *arguments):
        with self.assertRaises(Broken) as context:
            read_log(*arguments)
        self.assertEqual(context.exception.line, line)
        self.assertIs(type(context.exception.line), int)

    def test_what_is_shown(self):
        for seed in range(20):
            chance = random.Random(seed)
            model = Model(2, 3, RULES[seed])
            evening = Evening(2, 3, RULES[seed])
            for _ in range(12):
                deed = some_deed(chance, model)
                if model.can_do(deed):
                    model.log.append(deed)
                    evening.do(deed)
            found = read_log(2, 3, RULES[seed], show_log(evening))
            self.assertIs(type(found), Evening)
            self.assertEqual(found, evening)
            self.assertEqual([found.laid(), found.rule, show_log(found)],
                             [evening.laid(), evening.rule, show_log(evening)])
        self.assertEqual(read_log(2, 2, RULE, "none"), Evening(2, 2, RULE))

    def test_no_text(self):
        for thing in ODD_VALUES:
            self.no_log(thing)
        for text in ["", "\n", "None", "none\n", "none\nlay 0.0.0", "lay 0.0.0\nnone", "lay 0.0.0\n", "\nlay 0.0.0",
                     "lay 0.0.0\n\nlay 0.0.1", "lay 0.0.0 lay 0.0.1", "lay 0.0.0\r\nlay 0.0.1", "lay 0.0.0\nundo",
                     "undo", "lay 0.0.0\nlay 0.0.01", "finish 1", "lay 0.0.0\nrule", f"lay {TOO_LONG}.0.0",
                     " lay 0.0.0"]:
            self.no_log(text)
            self.no_log(text.encode())

    def test_broken_tells_the_first_line(self):
        self.broken(0, 2, 2, RULE, "lay 0.0.1")
        self.broken(1, 2, 2, RULE, "lay 0.0.0\nlay 0.0.0\nlay 0.0.0")
        self.broken(2, 2, 2, RULE, "lay 0.0.0\nrule no\ntake 0.0.1\nlay 0.0.1")
        # No meeting of these dancers is no deed of theirs, but it is a line of a deed.
        self.broken(1, 2, 2, RULE, "lay 0.0.0\nlay 0.0.2")
        self.broken(0, 2, 2, RULE, f"take {LONGEST}.2.0\nlay 0.0.0")
        self.broken(200, 1, 1, RULE, "\n".join(f"lay {r}.0.0" for r in range(201)))
        self.broken(200, 1, 1, RULE, "\n".join(["rule yes"] * 999))
        self.assertEqual(len(read_log(1, 1, RULE, "\n".join(f"lay {r}.0.0" for r in range(200)))), 200)

    def test_no_text_comes_ahead_of_broken(self):
        self.no_log("lay 0.0.1\nlay 0.0.00")
        self.no_log("\n".join(["rule yes"] * 201 + ["rule"]))


if __name__ == "__main__":
    unittest.main()
