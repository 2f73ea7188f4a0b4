"""Readers: what texts tell, if they are just what notation shows."""

from poleribbons.dances import Dance
from poleribbons.errors import Broken, Full, NoDeed, NoText, Refused
from poleribbons.evening import Evening
from poleribbons.heaps import Heap
from poleribbons.notation import show_crossings, show_heap
from poleribbons.programmes import TURNED_WORDS, Programme
from poleribbons.ribbons import are_crossings
from poleribbons.texts import counts_in, deed_in, meeting_in, numbers_and_rule_in, numbers_in, rule_in, word_in


def _read(text, find):
    """What find tells of a text, any value; None is what it tells of strings that are not shown."""
    found = find(text) if isinstance(text, str) else None
    if found is None:
        raise NoText(text)
    return found


def _dance_in(text):
    found = numbers_and_rule_in(text, 3)
    if found is None:
        return None
    suns, moons, rounds = found[0]
    return Dance(suns, moons, rounds, found[1])


def _piece_in(text):
    numbers = counts_in(text[1:-1], ".", 2)
    if numbers is None or text[0] not in "+-" or text[-1] not in "ab":
        return None
    return (numbers[0], numbers[1], text[-1] == "a", text[0] == "+")


def _heap_in(text):
    if text == "none":
        return Heap()
    pieces = [_piece_in(piece) for piece in text.split(" ")]
    if None in pieces:
        return None
    # Pieces in another order, or such as undo one another, are not what is shown of the Heap that they make.
    heap = Heap(pieces)
    return heap if show_heap(heap) == text else None


def _crossings_in(text):
    found = {}
    for line in text.split("\n"):
        dancers, _, bits = line.partition(" ")
        pair = counts_in(dancers, ".", 2)
        if pair is None:
            return None
        found[tuple(pair)] = bits
    return found if are_crossings(found) and show_crossings(found) == text else None


def _act_in(text):
    word, _, rest = text.partition(" ")
    found = numbers_and_rule_in(rest, 1)
    if word not in TURNED_WORDS or found is None:
        return None
    return (word, found[0][0], found[1])


def _programme_in(text):
    lines = text.split("\n")
    numbers = numbers_in(lines[0], 2)
    acts = [_act_in(line) for line in lines[1:]]
    if numbers is None or None in acts:
        return None
    return Programme(numbers[0], numbers[1], acts)


def _deeds_in(text):
    if text == "none":
        return []
    deeds = [deed_in(line) for line in text.split("\n")]
    return None if None in deeds else deeds


def read_word(text):
    """The Word that a text, any value, shows."""
    return _read(text, word_in)


def read_rule(text):
    """The Rule that a text, any value, shows."""
    return _read(text, rule_in)


def read_meeting(text):
    """The meeting that a text, any value, shows."""
    return _read(text, meeting_in)


def read_dance(text):
    """The Dance that a text, any value, shows."""
    return _read(text, _dance_in)


def read_heap(text):
    """The Heap that a text, any value, shows."""
    return _read(text, _heap_in)


def read_crossings(text):
    """The crossings that a text, any value, shows."""
    return _read(text, _crossings_in)


def read_programme(text):
    """The Programme that a text, any value, shows."""
    return _read(text, _programme_in)


def read_deed(text):
    """The deed that a text, any value, shows."""
    return _read(text, deed_in)


def read_log(suns, moons, rule, text):
    """The Evening, first led by a Rule, in which the deeds of a text, any value, were done."""
    deeds = _read(text, _deeds_in)
    evening = Evening(suns, moons, rule)
    for line, deed in enumerate(deeds):
        try:
            evening.do(deed)
        except (NoDeed, Full, Refused):
            raise Broken(line)
    return evening
