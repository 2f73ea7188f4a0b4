"""Notation: words, rules, dances, heaps, crossings, programmes and deeds as texts."""

from poleribbons.rules import JOINS


def _shown_word(early, again):
    return f"{early}({again})"


def _shown_parts(parts):
    """The text of the rule that has these parts."""
    head = parts[0]
    if head == "always":
        return "yes" if parts[1] else "no"
    if head == "not":
        return "not " + _shown_parts(parts[1])
    if head in JOINS:
        return f"({_shown_parts(parts[1])} {head} {_shown_parts(parts[2])})"
    return f"{head} {_shown_word(parts[1], parts[2])}"


def _shown_piece(piece):
    i, j, above, on = piece
    sign = "+" if on else "-"
    letter = "a" if above else "b"
    return f"{sign}{i}.{j}{letter}"


def show_word(word):
    """The text of a Word: its early, and its again in brackets."""
    return _shown_word(word.early, word.again)


def show_rule(rule):
    """The text of a Rule."""
    return _shown_parts(rule.parts())


def show_meeting(meeting):
    """The text of a meeting: its integers with points between."""
    r, i, j = meeting
    return f"{r}.{i}.{j}"


def show_dance(dance):
    """The text of a Dance: its numbers and its rule, with blanks between."""
    return f"{dance.suns} {dance.moons} {dance.rounds} {show_rule(dance.rule)}"


def show_heap(heap):
    """The text of a Heap: its pieces in its order, with blanks between."""
    return " ".join([_shown_piece(piece) for piece in heap]) if len(heap) > 0 else "none"


def show_crossings(crossings):
    """The text of crossings: a line for each two dancers, in their order."""
    return "\n".join([f"{i}.{j} {crossings[(i, j)]}" for i, j in sorted(crossings)])


def show_programme(programme):
    """The text of a Programme: a line of its numbers, and one for each act."""
    lines = [f"{word} {rounds} {show_rule(rule)}" for word, rounds, rule in programme.acts()]
    return "\n".join([f"{programme.suns} {programme.moons}"] + lines)


def show_deed(deed):
    """The text of a deed: its word, and the meeting or the rule."""
    word, what = deed
    shown = _shown_parts(what) if word == "rule" else show_meeting(what)
    return f"{word} {shown}"


def show_log(evening):
    """The text of an Evening's log: a line for each deed."""
    return "\n".join([show_deed(deed) for deed in evening]) if len(evening) > 0 else "none"
