"""Spans: which characters of words are read at which meetings, and what can be added up of rows of bits.

For tellback and counts: where words are joined by "unlike" alone, each character counts by itself. Rows of bits are
integers, added bit by bit without a carry, so by the sign `^`.
"""

from poleribbons.rules import numbers_at
from poleribbons.words import place_of


def many_characters(forms):
    """How many characters words that fit the forms have together."""
    return sum([lead + period for _, lead, period in forms])


def places_read(forms, suns, moons, meeting):
    """The places, in all characters one word behind another, of those that are read at a meeting, one a word."""
    r, i, j = meeting
    numbers = numbers_at(r, i, j, suns, moons)
    places = []
    start = 0
    for reader, lead, period in forms:
        places.append(start + place_of(lead, period, numbers[reader]))
        start = start + lead + period
    return places


def reduced(found, row, trace):
    """A row and its trace, to which rows found are added as long as there is one of its length."""
    while row.bit_length() in found:
        other, others_trace = found[row.bit_length()]
        row = row ^ other
        trace = trace ^ others_trace
    return (row, trace)


def rows_by_length(rows):
    """The dict from lengths to rows of different lengths that make, added up, all that the rows passed make.

    Beside each stands its trace: the bit k tells whether the row k that was passed is one of those it is made of.
    """
    found = {}
    for at, given in enumerate(rows):
        row, trace = reduced(found, given, 1 << at)
        if row > 0:
            found[row.bit_length()] = (row, trace)
    return found
