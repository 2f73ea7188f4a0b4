"""Values, words and rules that several tests go through."""

from poleribbons.rules import Rule
from poleribbons.words import Word

LONG = 10 ** 39 + 7


def nested(depth, make):
    """A value that is nested so deep, by make."""
    value = 0
    for _ in range(depth):
        value = make(value)
    return value


# Values of any kind; none of them is a word, a rule, a meeting, a ribbon, or a list or dict of such.
ODD_VALUES = [
    None, True, False, 0, 1, -1, 7, LONG, 10 ** 999, -(10 ** 999), "", "0", "1", "01", "sun", "turns", "a b\n~",
    b"", b"01", [], (), {}, set(), frozenset(), [0], (0,), [None], (None,), ("",), [[]], ((),), {0: 0}, {"": None},
    {(0,): "1"}, {1, 2}, ("sun",), ("sun", None), ("sun", -1), ("sun", True), ("sky", 0), ["sun", 0], (0, "sun"),
    ("sun", 0, 0), (True, 0, 0), (0, 0), (0, 0, 0, 0), [0, 0, 0], (0, 0, None), (-1, 0, 0), ("0", "0", "0"),
    nested(40, lambda value: [value]), nested(40, lambda value: (value,)), nested(40, lambda value: {0: value}),
    [0] * 9999, [None] * 9999, (0,) * 9999, {n: n for n in range(4999)}, "0" * 20000 + "2", Word("", "1"),
    Rule.always(True), Word, Rule, len, object(), ValueError("0"),
]

WORDS = [Word(early, again) for early in ["", "0", "01", "110"] for again in ["0", "1", "10", "100", "0110"]]


def turns(early, again):
    return Rule.by("turns", Word(early, again))


def suns(early, again):
    return Rule.by("suns", Word(early, again))


def moons(early, again):
    return Rule.by("moons", Word(early, again))


RULES = [
    Rule.always(True), Rule.always(False), turns("", "10"), turns("1", "01"), turns("", "110"),
    Rule.by("others", Word("", "10")), Rule.by("others", Word("01", "0")), Rule.by("rounds", Word("", "01")),
    Rule.by("rounds", Word("00", "1")), suns("", "10"), suns("1", "0"), moons("", "100"), moons("01", "1"),
    turns("", "10") ^ suns("", "10"), suns("", "10") & moons("", "10"), suns("", "01") | moons("1", "0"),
    suns("", "10") ^ moons("", "10"), ~turns("1", "0") ^ Rule.by("others", Word("", "100")),
    (turns("", "1100") | Rule.by("rounds", Word("1", "0"))) & ~moons("", "001"),
    Rule.by("rounds", Word("0", "1")) & suns("1", "0") & moons("0", "1"),
    suns("", "10") & Rule.by("rounds", Word("0", "1")) | moons("1", "0"),
]

# Rules of which all numbers are asked: their lead is at most 2, their period at most 4.
FORALL_RULES = [rule for rule in RULES if rule.lead <= 2 and rule.period <= 4] + [
    turns("10", "0110"), turns("", "1000"), Rule.by("others", Word("", "1100")) ^ suns("", "10"),
    Rule.by("rounds", Word("1", "0010")) | moons("01", "10"), turns("01", "001") & ~Rule.by("others", Word("", "110")),
    ~(suns("01", "10") ^ moons("1", "0")), turns("", "1010") ^ Rule.by("rounds", Word("01", "1")),
    turns("00", "1") & ~Rule.by("others", Word("", "1")) | suns("", "0111") & moons("1", "0"),
    suns("1", "1000") & ~moons("0", "0100") | Rule.by("rounds", Word("00", "1")) & suns("0", "1"),
]

# Rules of which classes are asked, too: their lead is at most 6, their period at most 12.
WIDE_RULES = RULES + [
    turns("110100", "100101"), Rule.by("others", Word("0", "110")) ^ suns("01011", "0110"),
    turns("1", "0") | moons("010101", "110100101100"), suns("", "1") & Rule.by("rounds", Word("01101", "010000110101")),
    turns("0110", "110") ^ Rule.by("others", Word("10", "1000")) ^ Rule.by("rounds", Word("000001", "01")),
]
