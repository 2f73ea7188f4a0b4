"""Texts: what a string tells that is written as notation has it; None for any other string.

For readers and desk. All are strict, so that nothing is told by two texts.
"""

from poleribbons.kinds import are_bits, is_reader
from poleribbons.rules import JOINS, Rule
from poleribbons.words import Word, are_again

MOST_DIGITS = 40
MOST_DEEP = 20
DIGITS = "0123456789"


def _count_in(text):
    """The integer from 0 on that a string tells."""
    if text == "" or len(text) > MOST_DIGITS or not all([sign in DIGITS for sign in text]):
        return None
    if text[0] == "0" and text != "0":
        return None
    return int(text)


def counts_in(text, sign, many):
    """The list of so many integers from 0 on, with a sign between."""
    found = [_count_in(piece) for piece in text.split(sign)]
    return None if len(found) != many or None in found else found


def numbers_in(text, many):
    """The list of so many integers from 1 on, with blanks between."""
    found = counts_in(text, " ", many)
    return None if found is None or 0 in found else found


def meeting_in(text):
    """The meeting that a string tells, of any dance."""
    found = counts_in(text, ".", 3)
    return None if found is None else tuple(found)


def word_in(text):
    """The Word that a string tells."""
    early, _, rest = text.partition("(")
    again = rest[:-1]
    if not are_bits(early) or not are_again(again) or rest[-1] != ")":
        return None
    return Word(early, again)


def _truth_at(text, at):
    """The parts of the truth that stands at this place of a text, and the place behind it; None if there is none."""
    for word, truth in (("yes", True), ("no", False)):
        if text[at:at + len(word)] == word:
            return (("always", truth), at + len(word))
    return None


def _reader_at(text, at):
    """The same for a reader and its word."""
    end = text.find(")", at) + 1
    reader, _, rest = text[at:end].partition(" ")
    word = word_in(rest)
    if not is_reader(reader) or word is None:
        return None
    return ((reader, word.early, word.again), end)


def _not_at(text, at, deep):
    """The same for "not" and a rule."""
    inner = _parts_at(text, at + len("not "), deep - 1)
    return None if inner is None else (("not", inner[0]), inner[1])


def _join_at(text, at, deep):
    """The same for two rules in brackets, and what joins them."""
    one = _parts_at(text, at + len("("), deep - 1)
    if one is None:
        return None
    for head in JOINS:
        sign = f" {head} "
        start = one[1] + len(sign)
        other = _parts_at(text, start, deep - 1) if text[one[1]:start] == sign else None
        if other is not None and text[other[1]:other[1] + 1] == ")":
            return ((head, one[0], other[0]), other[1] + len(")"))
    return None


def _parts_at(text, at, deep):
    """The same for any rule that is at most so deep."""
    if deep == 0:
        return None
    if text[at:at + 1] == "(":
        return _join_at(text, at, deep)
    if text[at:at + len("not ")] == "not ":
        return _not_at(text, at, deep)
    found = _truth_at(text, at)
    return _reader_at(text, at) if found is None else found


def rule_in(text):
    """The Rule that a string tells."""
    found = _parts_at(text, 0, MOST_DEEP)
    if found is None or found[1] != len(text):
        return None
    return Rule.of(found[0])


def numbers_and_rule_in(text, many):
    """The tuple of the list of so many integers from 1 on, and the Rule behind them, with blanks between."""
    pieces = text.split(" ", many)
    numbers = numbers_in(" ".join(pieces[:many]), many)
    rule = rule_in(" ".join(pieces[many:]))
    return None if numbers is None or rule is None else (numbers, rule)


def deed_in(text):
    """The deed that a string tells, of dancers without end."""
    word, _, rest = text.partition(" ")
    if word == "rule":
        rule = rule_in(rest)
        return None if rule is None else (word, rule.parts())
    meeting = meeting_in(rest) if word in ("lay", "take") else None
    return None if meeting is None else (word, meeting)
