import random
import unittest

from poleribbons.back import left_many
from poleribbons.desk import Desk
from poleribbons.errors import Full, NoCommand, NoDeed, NoMeeting, Nothing, Refused, Wrong
from poleribbons.evening import Evening
from poleribbons.forall import hangs_at, layers_at
from poleribbons.notation import show_deed, show_heap, show_log, show_meeting, show_rule
from poleribbons.readers import read_rule
from poleribbons.rules import Rule
from evenings import Model, some_acts, some_deed
from samples import FORALL_RULES, LONG, ODD_VALUES, RULES
from shown import LONGEST, TOO_LONG, deep_rules

RULE, YES = RULES[13], Rule.always(True)
ASKED = ["can", "ends", "laid", "heap", "log", "rule", "rounds", "holds", "needed 2.0.0", "needed 1.0.0", "hangs 2 2 1",
         "layers 3 5 2", "left 2 2 2 no"]

# None of these is a line of the desk.
NO_LINES = [
    "", " ", "\n", "can ", " can", "can\n", "Can", "CAN", "can can", "can\nends", "could", "ends ", "laid 0.0.0",
    "heap ", "log ", "rule ", "rounds ", "holds ", "undo ", "redo ", "undo 1", "redo 1", " undo", "Undo", "show",
    "none", "ok", "yes", "lay", "lay ", "lay 0.0", "lay 0.0.0 ", "lay 00.0.0", "lay  0.0.0", "take", "take 0.0.0.0",
    "rule yes no", "rule (yes)", "rule\nyes", "finish", "finish ", "finish 0", "finish 01", "finish -1", "finish 1 ",
    "finish 1 1", "finish one", "finish 1.0", f"finish {TOO_LONG}", "needed", "needed ", "needed 0.0", "needed 0.0.0 ",
    "needed 0 0 0", "needed 00.0.0", "needed -1.0.0", f"needed {TOO_LONG}.0.0", "hangs", "hangs 1", "hangs 1 1",
    "hangs 1 1 0", "hangs 0 1 1", "hangs 1 1 1 1", "hangs 1 1 1 yes", "hangs 1  1 1", "hangs 1 1 1 ", "hangs 1.1.1",
    "hangs 01 1 1", f"hangs 1 1 {TOO_LONG}", "layers", "layers 1 1", "layers 1 0 1", "layers 1 1 1 ", "layers 1 1 1 no",
    f"layers {TOO_LONG} 1 1", "left", "left 1 1 1", "left 1 1 1 ", "left 1 1 yes", "left 0 1 1 yes", "left 1 1 0 yes",
    "left 1 1 1 yes ", "left 1 1 1 (yes)", "left 1 1 1 1 yes", "left yes", "left 1 1 1 turns",
    f"left 1 {TOO_LONG} 1 yes", "hangs 1 1 1\n", "lay 0.0.0\nlay 0.0.1", "past 1", "copied", "trial", "above 0.0.0",
    "lay0.0.0", "lay,0.0.0", "lay 0,0,0", "rule sun (1)", "on 1 yes"]


def shown(meetings):
    return " ".join(show_meeting(meeting) for meeting in meetings) or "none"


class Checked(unittest.TestCase):
    def raises(self, kind, desk, line):
        """That a line raises, and changes nothing, not even what can be done again."""
        before = self.all_told(desk)
        with self.assertRaises(kind) as context:
            desk.execute(line)
        self.assertIs(type(context.exception), kind)
        self.assertEqual(self.all_told(desk), before)
        return context.exception

    def all_told(self, desk):
        found, redone = [desk.execute(line) for line in ASKED], 0
        try:
            while True:
                found.append(desk.execute("redo"))
                redone += 1
        except Nothing:
            for _ in range(redone):
                desk.execute("undo")
        return found


class Led(Checked):
    def test_as_the_evening_by_chance(self):
        for seed in range(14):
            s, m = [(1, 1), (2, 3), (3, 2), (2, 2)][seed % 4]
            first = FORALL_RULES[seed]
            desk, evening, model = Desk(s, m, first), Evening(s, m, first), Model(s, m, first)
            for word, chance in some_acts(seed, 25):
                model.log = evening.log()
                if word == "do":
                    self.do(desk, evening, some_deed(chance, model))
                elif word == "finish":
                    rounds = chance.choice([1, 2])
                    self.assertEqual(desk.execute(f"finish {rounds}"), shown(evening.finish(rounds)))
                else:
                    self.take_back(desk, evening, word)
                self.compare(desk, evening)

    def do(self, desk, evening, deed):
        try:
            evening.do(deed)
        except Refused:
            self.assertEqual(self.raises(Refused, desk, show_deed(deed)).deed, deed)
        else:
            self.assertEqual(desk.execute(show_deed(deed)), "ok")

    def take_back(self, desk, evening, word):
        try:
            deed = evening.undo() if word == "undo" else evening.redo()
        except Nothing:
            self.raises(Nothing, desk, word)
        else:
            self.assertEqual(desk.execute(word), show_deed(deed))

    def compare(self, desk, evening):
        told = {"can": shown(evening.can()), "ends": shown(evening.ends()), "laid": shown(evening.laid()),
                "heap": show_heap(evening.heap()), "log": show_log(evening), "rule": show_rule(evening.rule),
                "rounds": str(evening.rounds_laid()), "holds": "yes" if evening.holds() else "no"}
        for line, expected in told.items():
            self.assertEqual(desk.execute(line), expected)
        for meeting in [(0, 0, 0), (1, evening.suns - 1, 0), (11, 0, evening.moons - 1)]:
            self.assertEqual(desk.execute("needed " + show_meeting(meeting)), shown(evening.needed(meeting)))

    def test_by_hand(self):
        desk = Desk(2, 2, RULE)
        lines = [("laid", "none"), ("ends", "none"), ("heap", "none"), ("log", "none"), ("can", "0.0.0"),
                 ("rounds", "0"), ("holds", "no"), ("rule", "(turns (10) unlike suns (10))"), ("lay 0.0.0", "ok"),
                 ("can", "0.0.1 0.1.0"), ("needed 0.1.1", "0.0.1 0.1.0"), ("needed 0.0.0", "none"),
                 ("finish 1", "0.0.1 0.1.0 0.1.1"), ("finish 1", "none"), ("rounds", "1"), ("holds", "yes"),
                 ("ends", "0.1.1"), ("take 0.1.1", "ok"), ("rule not no", "ok"), ("rule", "not no"),
                 ("heap", "+0.0b +0.1a +1.0a"), ("undo", "rule not no"), ("undo", "take 0.1.1"), ("redo", "take 0.1.1"),
                 ("redo", "rule not no"),
                 ("log", "lay 0.0.0\nlay 0.0.1\nlay 0.1.0\nlay 0.1.1\ntake 0.1.1\nrule not no"), ("hangs 2 2 1", "no"),
                 ("layers 2 3 4", "5"), ("left 2 2 1 no", "4"), ("left 2 2 1 yes", "0")]
        for line, expected in lines:
            self.assertEqual(desk.execute(line), expected, line)


class Asked(Checked):
    def test_numbers_of_forty_digits_by_the_present_rule(self):
        sizes = [(LONGEST, LONGEST, LONGEST), (LONG, 3, 1), (1, LONG, 2), (2, 2, 1)]
        desk = Desk(2, 2, YES)
        for rule, other in zip(FORALL_RULES, FORALL_RULES[1:] + FORALL_RULES[:1]):
            desk.execute("rule " + show_rule(rule))
            for size in sizes:
                numbers = " ".join(str(number) for number in size)
                self.assertEqual(desk.execute("hangs " + numbers), "yes" if hangs_at(rule, *size) else "no")
                self.assertEqual(desk.execute("layers " + numbers), str(layers_at(rule, *size)))
                if rule.lead + other.lead <= 2 and (rule ^ other).period <= 4:
                    self.assertEqual(desk.execute(f"left {numbers} {show_rule(other)}"),
                                     str(left_many(rule, other, *size)))
        self.assertEqual(desk.execute(f"layers {LONGEST} 1 1"), str(layers_at(FORALL_RULES[-1], LONGEST, 1, 1)))

    def test_they_ask_of_other_dancers_than_there_are(self):
        desk = Desk(1, 1, YES)
        self.assertEqual(desk.execute(f"layers {LONGEST} {LONGEST} 1"), str(2 * LONGEST))
        self.assertEqual(desk.execute(f"left {LONGEST} {LONGEST} {LONGEST} no"), str(LONGEST ** 3))
        self.assertEqual([desk.execute("hangs 9 9 9"), desk.execute("log")], ["no", "none"])

    def test_needed(self):
        desk = Desk(2, 3, RULE)
        for text, meeting in [("0.2.0", (0, 2, 0)), ("0.0.3", (0, 0, 3)), (f"{LONGEST}.2.0", (LONGEST, 2, 0)),
                              (f"0.0.{LONGEST}", (0, 0, LONGEST))]:
            self.assertEqual(self.raises(NoMeeting, desk, "needed " + text).meeting, meeting)
        desk.execute("lay 0.0.0")
        self.assertEqual(desk.execute("needed 0.0.0"), "none")
        self.assertEqual(len(desk.execute("needed 11.1.2").split(" ")), 12 * 6 - 2)


class Errors(Checked):
    def test_what_is_no_line_of_these(self):
        for desk in (Desk(2, 2, RULE), Desk(1, 1, YES)):
            desk.execute("lay 0.0.0")
            desk.execute("rule no")
            desk.execute("undo")
            for line in NO_LINES + ODD_VALUES + ["rule " + text for _, text in deep_rules(21)]:
                self.assertIs(self.raises(NoCommand, desk, line).line, line)
            for line in ("can", "lay 0.0.1", "undo"):
                for thing in (line.encode(), [line], (line,), {line: line}):
                    self.assertIs(self.raises(NoCommand, desk, thing).line, thing)

    def test_no_command_ahead_of_all_else(self):
        desk = Desk(1, 1, RULE)
        # Nothing could be undone, and no meeting laid; but these are no lines at all.
        for line in ("undo ", "redo\n", "lay 0.5.0 ", "take 0.0.00", "needed 0.5.00", "finish 00"):
            self.raises(NoCommand, desk, line)
        desk.execute("finish 200")
        for line in ("lay 200.0.0 ", "rule yes ", "finish 201 ", "finish 0201"):
            self.raises(NoCommand, desk, line)

    def test_what_the_evening_raises(self):
        desk = Desk(2, 2, RULE)
        self.raises(Nothing, desk, "undo")
        self.raises(Nothing, desk, "redo")
        self.assertEqual(self.raises(Refused, desk, "lay 0.0.1").deed, ("lay", (0, 0, 1)))
        self.assertEqual(self.raises(Refused, desk, "take 0.0.0").deed, ("take", (0, 0, 0)))
        for text, deed in [("lay 0.2.0", ("lay", (0, 2, 0))), ("take 0.0.2", ("take", (0, 0, 2))),
                           (f"lay {LONGEST}.{LONGEST}.0", ("lay", (LONGEST, LONGEST, 0)))]:
            self.assertEqual(self.raises(NoDeed, desk, text).deed, deed)
        for line in ("finish 51", f"finish {LONGEST}"):
            self.assertEqual(self.raises(Full, desk, line).limit, 200)
        desk.execute("finish 50")
        self.assertEqual(self.raises(Full, desk, "rule yes").limit, 200)
        self.assertEqual(self.raises(Full, desk, "lay 50.0.0").limit, 200)
        self.raises(NoDeed, desk, "lay 0.2.0")
        self.assertEqual([desk.execute("finish 50"), desk.execute("rounds"), desk.execute("undo")],
                         ["none", "50", "lay 49.1.1"])
        self.raises(Full, desk, "finish 51")
        self.assertEqual(desk.execute("redo"), "lay 49.1.1")

    def test_wrong_tells_the_first_place(self):
        for thing in ODD_VALUES:
            if not (type(thing) is int and thing > 0):
                for place, arguments in ((0, (thing, 1, RULE)), (0, (thing, thing, thing)), (1, (1, thing, thing))):
                    with self.assertRaises(Wrong) as context:
                        Desk(*arguments)
                    self.assertEqual(context.exception.place, place)
            if not isinstance(thing, Rule):
                with self.assertRaises(Wrong) as context:
                    Desk(1, 1, thing)
                self.assertEqual(context.exception.place, 2)

    def test_rules_twenty_deep(self):
        desk = Desk(1, 1, YES)
        for rule, text in deep_rules(20):
            self.assertEqual([desk.execute("rule " + text), desk.execute("rule")], ["ok", text])
            self.assertEqual(desk.execute("left 1 1 1 " + text), "0")
            self.assertEqual(read_rule(text), rule)
        # A rule that was passed may be deeper; it is shown all the same.
        for rule, text in deep_rules(25):
            desk = Desk(1, 1, rule)
            self.assertEqual(desk.execute("rule"), text)
            self.raises(NoCommand, desk, "rule " + text)


class Desks(Checked):
    def test_each_leads_an_evening_of_its_own(self):
        one, other = Desk(2, 2, RULE), Desk(2, 2, RULE)
        one.execute("finish 2")
        self.assertEqual([other.execute("laid"), other.execute("log"), one.execute("rounds")], ["none", "none", "2"])

    def test_asking_changes_nothing(self):
        desk = Desk(2, 2, RULE)
        desk.execute("finish 1")
        desk.execute("undo")
        first = self.all_told(desk)
        for _ in range(3):
            lines = ASKED * 2
            random.Random(5).shuffle(lines)
            for line in lines:
                desk.execute(line)
            self.assertEqual(self.all_told(desk), first)


if __name__ == "__main__":
    unittest.main()
