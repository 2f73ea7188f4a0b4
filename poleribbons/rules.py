"""Rules: for each meeting, whether the sun dancer's ribbon lies above there.

A rule is kept as its parts, plain tuples; so all that is asked of it goes through these.
"""

from math import lcm

from poleribbons.errors import NoRule, Wrong
from poleribbons.kinds import are_bits, is_reader, is_truth
from poleribbons.words import Word, are_again, bit_at, joined

JOINS = ("and", "or", "unlike")
SWAPPED_READERS = {"turns": "others", "others": "turns", "rounds": "rounds", "suns": "moons", "moons": "suns"}


def are_parts(thing):
    """Whether thing, any value, is the parts of a rule."""
    if not isinstance(thing, tuple) or len(thing) not in (2, 3):
        return False
    head = thing[0]
    if len(thing) == 2:
        return head == "always" and is_truth(thing[1]) or head == "not" and are_parts(thing[1])
    if is_reader(head):
        return are_bits(thing[1]) and are_again(thing[2])
    return head in JOINS and are_parts(thing[1]) and are_parts(thing[2])


def _inner(parts):
    """The parts of the rules that this one is put together from."""
    return [part for part in parts[1:] if isinstance(part, tuple)]


def _written(parts):
    """The tuples (reader, early, again) in the parts, in their order."""
    if is_reader(parts[0]):
        return [parts]
    return [word for part in _inner(parts) for word in _written(part)]


def _size(parts):
    return 1 + sum([_size(part) for part in _inner(parts)])


def numbers_at(r, i, j, suns, moons):
    """The dict from each reader to the number that it reads at a meeting."""
    return {"turns": r * moons + j, "others": r * suns + i, "rounds": r, "suns": i, "moons": j}


def _told(parts, numbers):
    """What the parts tell where each reader reads its number."""
    head = parts[0]
    if head == "always":
        return parts[1]
    if head == "not":
        return not _told(parts[1], numbers)
    if head in JOINS:
        return joined(head, _told(parts[1], numbers), _told(parts[2], numbers))
    return bit_at(parts[1], parts[2], numbers[head])


def _sides_exchanged(parts):
    """The parts with each reader exchanged for that of the other side."""
    if is_reader(parts[0]):
        return (SWAPPED_READERS[parts[0]], parts[1], parts[2])
    if parts[0] == "always":
        return parts
    return (parts[0],) + tuple([_sides_exchanged(part) for part in _inner(parts)])


class Rule:
    """What lies above at each meeting; made by `by`, `always`, `of`, and by signs from Rules."""

    def __init__(self, parts):
        self._parts = parts
        lead = 0
        period = 1
        for _, early, again in _written(parts):
            lead = max(lead, len(early))
            period = lcm(period, len(again))
        self._lead = lead
        self._period = period

    @staticmethod
    def by(reader, word):
        """The Rule that tells a word, read by a number."""
        if not is_reader(reader):
            raise Wrong(0)
        if not isinstance(word, Word):
            raise Wrong(1)
        return Rule((reader, word.early, word.again))

    @staticmethod
    def always(truth):
        """The Rule that tells the same everywhere."""
        if not is_truth(truth):
            raise Wrong(0)
        return Rule(("always", truth))

    @staticmethod
    def of(parts):
        """The Rule that has these parts."""
        if not are_parts(parts):
            raise NoRule(parts)
        return Rule(parts)

    @property
    def lead(self):
        """The greatest lead of the words in it."""
        return self._lead

    @property
    def period(self):
        """The least common multiple of the periods of the words in it."""
        return self._period

    def __call__(self, r, i, j, suns, moons):
        return _told(self._parts, numbers_at(r, i, j, suns, moons))

    def __eq__(self, other):
        return isinstance(other, Rule) and self._parts == other._parts

    def __invert__(self):
        return Rule(("not", self._parts))

    def __and__(self, other):
        return Rule(("and", self._parts, other._parts))

    def __or__(self, other):
        return Rule(("or", self._parts, other._parts))

    def __xor__(self, other):
        return Rule(("unlike", self._parts, other._parts))

    def parts(self):
        """The rule as tuples."""
        return self._parts

    def size(self):
        """How many words, truths, "not", "and", "or", "unlike" it has."""
        return _size(self._parts)

    def words(self):
        """The list of the tuples (reader, Word) in it, in the order in which they stand."""
        return [(reader, Word(early, again)) for reader, early, again in _written(self._parts)]

    def swapped(self):
        """The Rule of the same cloth seen with both sides exchanged."""
        return Rule(("not", _sides_exchanged(self._parts)))
