"""Counts: how many cloths words of given forms make, and each of them by its number.

A cloth is a row of bits, its first meeting the highest one, so that cloths stand in the order of their numbers.
"""

from poleribbons.dances import all_meetings
from poleribbons.errors import NoCloth
from poleribbons.kinds import is_count
from poleribbons.ribbons import numbers_of
from poleribbons.spans import many_characters, places_read, reduced, rows_by_length


def _cloths_by_length(forms, suns, moons, rounds):
    """Rows of different lengths that make, added up, all cloths that words of these forms make."""
    meetings = all_meetings(suns, moons, rounds)
    # The cloth of each character alone.
    rows = [0] * many_characters(forms)
    for at, meeting in enumerate(reversed(meetings)):
        for place in places_read(forms, suns, moons, meeting):
            rows[place] = rows[place] | (1 << at)
    return rows_by_length(rows)


def _crossings_in(bits, suns, moons):
    """The crossings of which these are the bits of all meetings."""
    return {(i, j): bits[i * moons + j::suns * moons] for i in range(suns) for j in range(moons)}


def _bit(row, at):
    return (row >> at) & 1


def many_cloths(forms, suns, moons, rounds):
    """How many different cloths words that fit the forms make."""
    return 1 << len(_cloths_by_length(forms, suns, moons, rounds))


def cloth_bits(crossings):
    """The string of the truths at all meetings, ascending."""
    suns, moons, rounds = numbers_of(crossings)
    return "".join([crossings[(i, j)][r] for r, i, j in all_meetings(suns, moons, rounds)])


def nth_cloth(forms, suns, moons, rounds, number):
    """The crossings of the cloth of this number, any value."""
    found = _cloths_by_length(forms, suns, moons, rounds)
    if not is_count(number) or number >= 1 << len(found):
        raise NoCloth(number)
    cloth = 0
    # No two cloths have the same bits at the heads of the rows, so these bits are those of the number.
    for at, length in enumerate(sorted(found)[::-1]):
        if _bit(cloth, length - 1) != _bit(number, len(found) - 1 - at):
            cloth = cloth ^ found[length][0]
    return _crossings_in(f"{cloth:b}".zfill(suns * moons * rounds), suns, moons)


def cloth_number(forms, crossings):
    """The number of a cloth, None if no words make it."""
    suns, moons, rounds = numbers_of(crossings)
    found = _cloths_by_length(forms, suns, moons, rounds)
    cloth = int(cloth_bits(crossings), 2)
    rest, _ = reduced(found, cloth, 0)
    if rest > 0:
        return None
    number = 0
    for length in sorted(found)[::-1]:
        number = 2 * number + _bit(cloth, length - 1)
    return number
