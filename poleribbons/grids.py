"""Grids: what a rule tells at all meetings of one round between the first sun dancers and the first moon dancers.

A grid is the string of these bits, meetings ascending. While the parts of a rule are put together it is the integer
that has these bits, so that each part is read for all meetings at once.
"""

from poleribbons.rules import JOINS, numbers_at
from poleribbons.words import bits_from, joined

READ_BY_MOON = ("turns", "moons")


def _word_grid(written, starts, rows, columns):
    """The grid of a word, of which each reader reads the bit at its start at the first meeting."""
    reader, early, again = written
    start = starts[reader]
    if reader == "rounds":
        return bits_from(early, again, start, 1) * (rows * columns)
    if reader in READ_BY_MOON:
        return bits_from(early, again, start, columns) * rows
    return "".join([bit * columns for bit in bits_from(early, again, start, rows)])


def _number_of_grid(parts, starts, rows, columns):
    """The integer of the grid of these parts."""
    head = parts[0]
    full = (1 << (rows * columns)) - 1
    if head == "always":
        return full if parts[1] else 0
    if head == "not":
        return full ^ _number_of_grid(parts[1], starts, rows, columns)
    if head in JOINS:
        one = _number_of_grid(parts[1], starts, rows, columns)
        return joined(head, one, _number_of_grid(parts[2], starts, rows, columns))
    return int(_word_grid(parts, starts, rows, columns), 2)


def grid(rule, r, suns, moons, rows, columns):
    """The bits that a rule tells in the round r for the sun dancers below rows and the moon dancers below columns."""
    number = _number_of_grid(rule.parts(), numbers_at(r, 0, 0, suns, moons), rows, columns)
    return f"{number:b}".zfill(rows * columns)
