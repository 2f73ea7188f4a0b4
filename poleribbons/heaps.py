"""Heaps: what is left of crossings that are laid and taken off, if all that undo one another are taken out.

A piece is a tuple (i, j, above, on): a sun dancer, a moon dancer, whether the sun dancer's ribbon lies above, and
whether this crossing is laid, or taken off. Two pieces touch if they have a dancer in common.
"""

from poleribbons.errors import TooMany, Wrong
from poleribbons.kinds import is_count, is_truth
from poleribbons.ribbons import names_ribbon

MOST_TO_ORDER = 12


def _is_piece(thing):
    """Whether thing, any value, is a piece."""
    if not isinstance(thing, tuple) or len(thing) != 4:
        return False
    i, j, above, on = thing
    return is_count(i) and is_count(j) and is_truth(above) and is_truth(on)


def _undone(piece):
    """The piece that undoes one."""
    i, j, above, on = piece
    return (i, j, above, not on)


def _exchanged(piece):
    """The piece with both sides exchanged."""
    i, j, above, on = piece
    return (j, i, not above, on)


def _touch(one, other):
    return one[0] == other[0] or one[1] == other[1]


def _index_undone(pieces, piece):
    """The index of the piece that one more behind these undoes, None if it undoes none."""
    for at in reversed(range(len(pieces))):
        # The last piece that it touches is the only one that can be brought next to it.
        if _touch(pieces[at], piece):
            return at if pieces[at] == _undone(piece) else None
    return None


def _what_is_left(pieces):
    """The pieces without those that undo one another, in their order."""
    left = []
    for piece in pieces:
        at = _index_undone(left, piece)
        if at is None:
            left.append(piece)
        else:
            left.pop(at)
    return left


def _by_levels(pieces):
    """The list of the ascending lists of the pieces of each level, of pieces of which none undo one another."""
    tops = {}
    found = {}
    for piece in pieces:
        sun = ("sun", piece[0])
        moon = ("moon", piece[1])
        level = max(tops.get(sun, 0), tops.get(moon, 0))
        found.setdefault(level, []).append(piece)
        tops[sun] = level + 1
        tops[moon] = level + 1
    return [sorted(found[level]) for level in range(len(found))]


def _one_more(ways, ahead):
    """From the sets of pieces that can stand first, each with its number of orders, to those of one piece more.

    A set is told as a string of bits; ahead are the indexes of the pieces that must come before each piece.
    """
    grown = {}
    for had, many in ways.items():
        for at, before in enumerate(ahead):
            if had[at] == "0" and all([had[other] == "1" for other in before]):
                more = had[:at] + "1" + had[at + 1:]
                grown[more] = grown.get(more, 0) + many
    return grown


class Heap:
    """The pieces that are left of a list, in an order that is the same for all lists that come to the same."""

    def __init__(self, pieces=()):
        if not isinstance(pieces, (list, tuple)) or not all([_is_piece(piece) for piece in pieces]):
            raise Wrong(0)
        self._pieces = [piece for level in _by_levels(_what_is_left(pieces)) for piece in level]

    def __len__(self):
        return len(self._pieces)

    def __iter__(self):
        return iter(self._pieces)

    def __contains__(self, x):
        # Python takes True for 1, so it is asked first whether x is a piece at all.
        return _is_piece(x) and x in self._pieces

    def __eq__(self, other):
        return isinstance(other, Heap) and self._pieces == other._pieces

    def __mul__(self, other):
        return Heap(self._pieces + other._pieces)

    def __pow__(self, other):
        return Heap(self._pieces * other)

    def __invert__(self):
        return Heap([_undone(piece) for piece in self._pieces[::-1]])

    def levels(self):
        """The list of the lists of the pieces of each level."""
        return _by_levels(self._pieces)

    def firsts(self):
        """The ascending list of the pieces that can stand first."""
        return sorted([piece for at, piece in enumerate(self._pieces)
                       if not any([_touch(piece, other) for other in self._pieces[:at]])])

    def lasts(self):
        """The ascending list of the pieces that can stand last."""
        return sorted([piece for at, piece in enumerate(self._pieces)
                       if not any([_touch(piece, other) for other in self._pieces[at + 1:]])])

    def pieces_of(self, ribbon):
        """The list of the pieces of a ribbon's dancer, in their order; none for any other value."""
        if not names_ribbon(ribbon):
            return []
        side, number = ribbon
        place = 0 if side == "sun" else 1
        return [piece for piece in self._pieces if piece[place] == number]

    def is_order(self, thing):
        """Whether thing, any value, is a list of as many pieces that has this Heap."""
        if not isinstance(thing, list) or len(thing) != len(self._pieces):
            return False
        return all([_is_piece(piece) for piece in thing]) and Heap(thing) == self

    def orders(self):
        """How many lists of as many pieces have this Heap."""
        if len(self._pieces) > MOST_TO_ORDER:
            raise TooMany(MOST_TO_ORDER)
        ahead = [[other for other in range(at) if _touch(self._pieces[other], piece)]
                 for at, piece in enumerate(self._pieces)]
        ways = {"0" * len(ahead): 1}
        for _ in ahead:
            ways = _one_more(ways, ahead)
        return sum(list(ways.values()))

    def swapped(self):
        """The Heap with both sides exchanged."""
        return Heap([_exchanged(piece) for piece in self._pieces])


def heap_of(dance):
    """The Heap of all meetings of a Dance, laid."""
    return Heap([(i, j, dance.above((r, i, j)), True) for r, i, j in dance.meetings()])
