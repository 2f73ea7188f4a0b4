"""Tellback: which words, joined by "unlike", a given cloth can come from.

Each meeting of a cloth makes an equation: of the characters that are read there an odd number is 1 just where the sun
dancer's ribbon lies above. It is kept as a row of bits: the bit 0 is this truth, the bit k + 1 tells whether the
character k is read.
"""

from poleribbons.dances import all_meetings, names_meeting
from poleribbons.kinds import is_count, is_number, is_reader
from poleribbons.ribbons import numbers_of
from poleribbons.rules import Rule
from poleribbons.spans import many_characters, places_read, rows_by_length
from poleribbons.words import Word

MOST_FORMS = 4


def _is_form(thing):
    """Whether thing, any value, is a form."""
    if not isinstance(thing, tuple) or len(thing) != 3:
        return False
    reader, lead, period = thing
    return is_reader(reader) and is_count(lead) and is_number(period)


def are_forms(thing):
    """Whether thing, any value, is a list of forms."""
    return isinstance(thing, list) and len(thing) <= MOST_FORMS and all([_is_form(one) for one in thing])


def joined_rule(forms, words):
    """The Rule that joins words that fit the forms by "unlike"."""
    rules = [Rule.by(form[0], word) for form, word in zip(forms, words)]
    if not rules:
        return Rule.always(False)
    joined = rules[0]
    for rule in rules[1:]:
        joined = joined ^ rule
    return joined


def _equation(crossings, forms, meeting):
    """The row of the equation that a meeting makes."""
    suns, moons, _ = numbers_of(crossings)
    r, i, j = meeting
    row = 1 if crossings[(i, j)][r] == "1" else 0
    for place in places_read(forms, suns, moons, meeting):
        row = row | (2 << place)
    return row


def _solved(crossings, forms):
    """The rows that all equations come to; one of length 1 tells that nothing read is 1, so there are no words."""
    suns, moons, rounds = numbers_of(crossings)
    return rows_by_length([_equation(crossings, forms, meeting) for meeting in all_meetings(suns, moons, rounds)])


def _is_odd(row):
    return f"{row:b}".count("1") % 2 == 1


def _least_characters(found, many):
    """The least string of so many characters for which all equations hold."""
    # The bit 0 stands for the truths of the equations.
    known = 1
    characters = ""
    for place in range(many):
        row, _ = found.get(place + 2, (0, 0))
        # A row tells its last character by those ahead of it; a character that no row tells may be 0.
        if _is_odd(row & known):
            known = known | (2 << place)
            characters = characters + "1"
        else:
            characters = characters + "0"
    return characters


def told_back(crossings, forms):
    """The least list of words that fit the forms and make these crossings, None if there are none."""
    found = _solved(crossings, forms)
    if 1 in found:
        return None
    characters = _least_characters(found, many_characters(forms))
    words = []
    for _, lead, period in forms:
        words.append(Word(characters[:lead], characters[lead:lead + period]))
        characters = characters[lead + period:]
    return words


def many_told(crossings, forms):
    """How many lists of words that fit the forms make these crossings."""
    found = _solved(crossings, forms)
    return 0 if 1 in found else 1 << (many_characters(forms) - len(found))


def refusal(crossings, forms):
    """An ascending list of meetings that no words can make, None if there are words."""
    found = _solved(crossings, forms)
    if 1 not in found:
        return None
    _, trace = found[1]
    suns, moons, rounds = numbers_of(crossings)
    return [meeting for at, meeting in enumerate(all_meetings(suns, moons, rounds)) if (trace >> at) & 1 == 1]


def is_refusal(crossings, forms, thing):
    """Whether thing, any value, is a list of different meetings that no words can make."""
    suns, moons, rounds = numbers_of(crossings)
    if not isinstance(thing, list) or not all([names_meeting(suns, moons, rounds, one) for one in thing]):
        return False
    if len(set(thing)) < len(thing):
        return False
    total = 0
    for meeting in thing:
        total = total ^ _equation(crossings, forms, meeting)
    return total == 1
