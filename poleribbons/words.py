"""Words: endless rows of bits, told by an early string and one that comes again and again."""

from math import lcm

from poleribbons.errors import Wrong
from poleribbons.kinds import are_bits


def are_again(thing):
    """Whether thing is bits that can come again: at least one."""
    return are_bits(thing) and thing != ""


def place_of(lead, period, x):
    """The place, in early and again written one behind the other, of the character that tells the bit x."""
    if x < lead:
        return x
    return lead + (x - lead) % period


def bit_at(early, again, x):
    """Whether the bit x of the word of these strings is 1."""
    if x < len(early):
        return early[x] == "1"
    return again[(x - len(early)) % len(again)] == "1"


def joined(how, one, other):
    """What two truths, or two integers bit by bit, make by "and", "or" or "unlike"."""
    if how == "and":
        return one & other
    if how == "or":
        return one | other
    return one ^ other


def _digit(truth):
    return "1" if truth else "0"


def _turned_about(bits):
    return "".join([_digit(bit == "0") for bit in bits])


def _first_bits(early, again, many):
    return (early + again * (many // len(again) + 1))[:many]


def bits_from(early, again, start, many):
    """The string of many bits of the word of these strings, from the bit start on."""
    place = place_of(len(early), len(again), start)
    return _first_bits(early, again, place + many)[place:]


def least_again(again):
    """The shortest string, or list, of which again is made by repeating it."""
    for size in range(1, len(again)):
        if again[:size] * (len(again) // size) == again:
            return again[:size]
    return again


def least_written(early, again):
    """The endless row of early and again, two strings or two lists, told with the least lead, and then period."""
    again = least_again(again)
    # A last early member that again ends in belongs to the turning part, turned back by one.
    while len(early) > 0 and early[-1] == again[-1]:
        again = again[-1:] + again[:-1]
        early = early[:-1]
    return (early, again)


def _joined_word(how, one, other):
    lead = max(one.lead, other.lead)
    many = lead + lcm(one.period, other.period)
    first = _first_bits(one.early, one.again, many)
    second = _first_bits(other.early, other.again, many)
    bits = "".join([_digit(joined(how, a == "1", b == "1")) for a, b in zip(first, second)])
    return Word(bits[:lead], bits[lead:])


class Word:
    """An endless row of bits: early once, then again without end."""

    def __init__(self, early, again):
        if not are_bits(early):
            raise Wrong(0)
        if not are_again(again):
            raise Wrong(1)
        self._early = early
        self._again = again

    @property
    def early(self):
        """The bits that come once, perhaps none."""
        return self._early

    @property
    def again(self):
        """The bits that come again and again."""
        return self._again

    @property
    def lead(self):
        """How many bits come once."""
        return len(self._early)

    @property
    def period(self):
        """How many bits come again and again."""
        return len(self._again)

    def __call__(self, x):
        return bit_at(self._early, self._again, x)

    def __eq__(self, other):
        return isinstance(other, Word) and self._early == other._early and self._again == other._again

    def __invert__(self):
        return Word(_turned_about(self._early), _turned_about(self._again))

    def __and__(self, other):
        return _joined_word("and", self, other)

    def __or__(self, other):
        return _joined_word("or", self, other)

    def __xor__(self, other):
        return _joined_word("unlike", self, other)

    def bits(self, many):
        """The string of the first many bits."""
        return _first_bits(self._early, self._again, many)

    def plain(self):
        """The Word of the same bits with the least lead, and for this the least period."""
        early, again = least_written(self._early, self._again)
        return Word(early, again)

    def same(self, other):
        """Whether another Word has the same bits."""
        return self.plain() == other.plain()

    def later(self, many):
        """The Word whose bit x is the bit x + many of this one."""
        if many < self.lead:
            return Word(self._early[many:], self._again)
        turn = (many - self.lead) % self.period
        return Word("", self._again[turn:] + self._again[:turn])
