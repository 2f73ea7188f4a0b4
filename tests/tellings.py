"""Forms that several tests go through, and all cloths that their words make, made one by one."""

from functools import lru_cache
from itertools import product

from poleribbons.words import Word

# At most nine characters together: no forms at all, two of one reader, words that are read nowhere, and all readers.
SMALL_FORMS = [
    [], [("turns", 0, 1)], [("suns", 0, 2)], [("turns", 0, 2), ("suns", 0, 2)], [("suns", 0, 2), ("suns", 1, 2)],
    [("rounds", 2, 1), ("moons", 0, 3)], [("others", 1, 3)], [("turns", 0, 3), ("others", 0, 2), ("rounds", 1, 1)],
    [("moons", 4, 2)], [("turns", 0, 2), ("turns", 0, 4)], [("suns", 6, 1), ("moons", 0, 1)],
    [("turns", 1, 1), ("others", 1, 1), ("suns", 0, 2), ("moons", 0, 2)], [("rounds", 0, 1)] * 4,
]

SIZES = [(1, 1, 1), (1, 2, 1), (2, 1, 2), (2, 2, 1), (1, 1, 3), (2, 2, 2), (3, 2, 1), (2, 3, 2), (1, 3, 2)]

# Eighty characters together, in four words.
GREAT_FORMS = [
    [("turns", 2, 18), ("others", 1, 19), ("suns", 3, 17), ("rounds", 0, 20)],
    [("turns", 0, 20), ("turns", 4, 16), ("moons", 0, 8), ("suns", 24, 8)],
    [("turns", 24, 24), ("others", 16, 16)], [("suns", 0, 8), ("moons", 0, 8)], [("others", 0, 5), ("rounds", 5, 1)],
]


def numbers_read(meeting, s, m):
    """What each reader reads at a meeting."""
    r, i, j = meeting
    return {"turns": r * m + j, "others": r * s + i, "rounds": r, "suns": i, "moons": j}


def meetings_of(s, m, r):
    return list(product(range(r), range(s), range(m)))


def character_read(form, meeting, s, m):
    """The index of the character of a form's word that is read at a meeting."""
    reader, lead, period = form
    x = numbers_read(meeting, s, m)[reader]
    while x >= lead + period:
        x -= period
    return x


def cloth_made(forms, texts, s, m, r):
    """The bits, meetings ascending, of the cloth that these words make; each is told by one text."""
    bits = ""
    for meeting in meetings_of(s, m, r):
        ones = [text[character_read(form, meeting, s, m)] for form, text in zip(forms, texts)].count("1")
        bits += "01"[ones % 2]
    return bits


def all_texts(forms):
    """All lists of texts of words that fit the forms, the least first."""
    return product(*[["".join(bits) for bits in product("01", repeat=lead + period)] for _, lead, period in forms])


def words_of(forms, texts):
    return [Word(text[:lead], text[lead:]) for (_, lead, _), text in zip(forms, texts)]


def laid(bits, s, m, r):
    """The crossings whose bits these are, meetings ascending."""
    found = {pair: "" for pair in product(range(s), range(m))}
    for bit, (_, i, j) in zip(bits, meetings_of(s, m, r)):
        found[i, j] += bit
    return found


@lru_cache(None)
def cloths_by_number(number, s, m, r):
    """The dict from the bits of all cloths that the small forms of this number make to the texts that make them."""
    forms = SMALL_FORMS[number]
    found = {}
    for texts in all_texts(forms):
        found.setdefault(cloth_made(forms, texts, s, m, r), []).append(texts)
    return found


def is_odd_one(forms, bits, meetings, s, m, r):
    """Whether the ribbon of the sun lies above at an odd number of meetings, each character being read evenly."""
    places = meetings_of(s, m, r)
    read = [(at, character_read(form, meeting, s, m)) for meeting in meetings for at, form in enumerate(forms)]
    odd = [bits[places.index(meeting)] for meeting in meetings].count("1") % 2 == 1
    return odd and all(read.count(one) % 2 == 0 for one in set(read))
