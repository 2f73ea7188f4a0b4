"""Things with the texts that show them, each written by hand or by the plain words of the document."""

import re

from poleribbons.dances import Dance
from poleribbons.heaps import Heap
from poleribbons.programmes import Programme
from poleribbons.rules import Rule
from poleribbons.words import Word
from samples import RULES, moons, suns, turns

YES, NO = Rule.always(True), Rule.always(False)
LONGEST = 10 ** 40 - 1
TOO_LONG = 10 ** 40

WORDS = [(Word("11", "100"), "11(100)"), (Word("", "10"), "(10)"), (Word("", "0"), "(0)"), (Word("000", "1"), "000(1)"),
         (Word("01" * 300, "110" * 100), "01" * 300 + "(" + "110" * 100 + ")")]

PARTS = [
    (YES, "yes"), (NO, "no"), (~YES, "not yes"), (~~NO, "not not no"), (turns("", "10"), "turns (10)"),
    (Rule.by("others", Word("1", "01")), "others 1(01)"), (Rule.by("rounds", Word("00", "1")), "rounds 00(1)"),
    (suns("", "10"), "suns (10)"), (moons("01", "1"), "moons 01(1)"), (YES & NO, "(yes and no)"),
    (turns("", "10") | NO, "(turns (10) or no)"), (YES ^ suns("1", "0"), "(yes unlike suns 1(0))"),
    (~(YES & NO), "not (yes and no)"), (~YES & NO, "(not yes and no)"), (YES & ~NO, "(yes and not no)"),
    ((YES & NO) | (NO ^ YES), "((yes and no) or (no unlike yes))"), (YES & (NO & YES), "(yes and (no and yes))"),
    ((YES & NO) & YES, "((yes and no) and yes)"),
    (~(turns("1", "0") ^ ~moons("", "011")) & YES, "(not (turns 1(0) unlike not moons (011)) and yes)"),
]


def deep_rules(deep):
    """Rules that are just so deep, with their texts: by "not" alone, and by a join to the left or to the right."""
    found = [(YES, "yes"), (turns("", "10"), "turns (10)"), (NO, "no"), (suns("0", "1"), "suns 0(1)")]
    for _ in range(deep - 1):
        (a, b, c, d), (e, f, g, h) = zip(*found)
        found = [(~a, "not " + e), (~b, "not " + f), (c & YES, "(" + g + " and yes)"),
                 (NO ^ d, "(no unlike " + h + ")")]
    return found


MEETINGS = [((0, 1, 2), "0.1.2"), ((0, 0, 0), "0.0.0"), ((10, 200, 3000), "10.200.3000"),
            ((LONGEST, 0, LONGEST), str(LONGEST) + ".0." + str(LONGEST))]

DANCES = [(Dance(2, 3, 2, turns("", "10")), "2 3 2 turns (10)"), (Dance(1, 1, 1, NO), "1 1 1 no"),
          (Dance(LONGEST, 10, LONGEST, YES & NO), f"{LONGEST} 10 {LONGEST} (yes and no)"),
          (Dance(8, 7, 12, ~RULES[13]), "8 7 12 not (turns (10) unlike suns (10))")]

HEAPS = [
    (Heap(), "none"), (Heap([(0, 1, True, True)]), "+0.1a"), (Heap([(0, 1, False, False)]), "-0.1b"),
    (Heap([(1, 0, True, True), (0, 1, False, True)]), "+0.1b +1.0a"), (Heap([(0, 0, True, True)] * 2), "+0.0a +0.0a"),
    (Heap([(0, 0, False, True), (0, 1, True, False), (1, 0, True, True), (1, 1, False, True)]),
     "+0.0b -0.1a +1.0a +1.1b"),
    (Heap([(2, 0, True, False), (10, 1, True, True)]), "-2.0a +10.1a"),
    (Heap([(LONGEST, 0, True, True), (LONGEST, LONGEST, False, False)]), f"+{LONGEST}.0a -{LONGEST}.{LONGEST}b"),
    (Heap([(0, 0, True, True), (0, 0, False, False)]), "+0.0a -0.0b"),
]

CROSSINGS = [
    ({(0, 0): "1"}, "0.0 1"), ({(0, 0): "0110"}, "0.0 0110"), ({(0, 0): "0", (0, 1): "1"}, "0.0 0\n0.1 1"),
    ({(1, 0): "10", (0, 1): "00", (1, 1): "01", (0, 0): "11"}, "0.0 11\n0.1 00\n1.0 10\n1.1 01"),
    ({(0, n): "1" for n in range(11, -1, -1)}, "\n".join(f"0.{n} 1" for n in range(12))),
    ({(n, 0): "01" for n in range(12)}, "\n".join(f"{n}.0 01" for n in range(12))),
]

PROGRAMMES = [
    (Programme(2, 2, []), "2 2"), (Programme(2, 3, [("on", 2, turns("", "10"))]), "2 3\non 2 turns (10)"),
    (Programme(1, 9, [("on", 1, YES), ("back", 12, NO & ~YES)]), "1 9\non 1 yes\nback 12 (no and not yes)"),
    (Programme(LONGEST, 1, [("back", LONGEST, NO)] * 2), f"{LONGEST} 1\nback {LONGEST} no\nback {LONGEST} no"),
]

DEEDS = [(("lay", (0, 1, 2)), "lay 0.1.2"), (("take", (10, 0, 0)), "take 10.0.0"),
         (("lay", (LONGEST, LONGEST, 0)), f"lay {LONGEST}.{LONGEST}.0"), (("rule", YES.parts()), "rule yes"),
         (("rule", (turns("", "10") ^ ~NO).parts()), "rule (turns (10) unlike not no)")]

INTEGER = "(?:0|[1-9][0-9]{0,39})"
NUMBER = "[1-9][0-9]{0,39}"
WORD = r"[01]*\([01]+\)"
SINGLE = {"word": WORD, "meeting": rf"{INTEGER}\.{INTEGER}\.{INTEGER}"}


def is_rule_text(text, deep=20):
    """Whether a text shows a rule, read from the inside: each rule gives way to how deep it is, in angle brackets."""
    if "<" in text:
        return False
    text = re.sub(rf"\b(turns|others|rounds|suns|moons) {WORD}|\b(yes|no)\b", "<1>", text)
    before = None
    while text != before:
        before = text
        text = re.sub(r"not <(\d+)>", lambda found: f"<{int(found[1]) + 1}>", text)
        text = re.sub(r"\(<(\d+)> (?:and|or|unlike) <(\d+)>\)",
                      lambda found: f"<{max(int(found[1]), int(found[2])) + 1}>", text)
    return text in [f"<{number}>" for number in range(1, deep + 1)]


def is_led_rule(start, text):
    """Whether a text is what this pattern tells, a blank, and a rule."""
    found = re.match(start + " ", text)
    return found is not None and is_rule_text(text[found.end():])


def is_deed_text(text):
    return re.fullmatch(f"(lay|take) {SINGLE['meeting']}", text) is not None or is_led_rule("rule", text)


def is_text(kind, text):
    """Whether a text, by its signs alone, shows a thing of this kind; heaps and crossings only if in their order."""
    lines = text.split("\n")
    if kind in SINGLE:
        return re.fullmatch(SINGLE[kind], text) is not None
    if kind == "rule":
        return is_rule_text(text)
    if kind == "dance":
        return is_led_rule(f"{NUMBER} {NUMBER} {NUMBER}", text)
    if kind == "deed":
        return is_deed_text(text)
    if kind == "programme":
        acts = [is_led_rule(f"(on|back) {NUMBER}", line) for line in lines[1:]]
        return re.fullmatch(f"{NUMBER} {NUMBER}", lines[0]) is not None and all(acts)
    if kind == "heap":
        pieces = [re.fullmatch(rf"[+-]{INTEGER}\.{INTEGER}[ab]", piece) for piece in text.split(" ")]
        return text == "none" or None not in pieces
    return None not in [re.fullmatch(rf"{INTEGER}\.{INTEGER} [01]+", line) for line in lines]


ALL = {"word": WORDS, "rule": PARTS + deep_rules(20), "meeting": MEETINGS, "dance": DANCES, "heap": HEAPS,
       "crossings": CROSSINGS, "programme": PROGRAMMES, "deed": DEEDS}
