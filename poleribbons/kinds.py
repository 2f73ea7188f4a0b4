"""What kind a value is: each of these may be asked of any value."""

SIDES = ("sun", "moon")
READERS = ("turns", "others", "rounds", "suns", "moons")


def is_truth(thing):
    """Whether thing is True or False."""
    return isinstance(thing, bool)


def is_integer(thing):
    """Whether thing is an integer; True and False are none."""
    return isinstance(thing, int) and not is_truth(thing)


def is_count(thing):
    """Whether thing is an integer from 0 on."""
    return is_integer(thing) and thing >= 0


def is_number(thing):
    """Whether thing is an integer from 1 on."""
    return is_integer(thing) and thing >= 1


def are_bits(thing):
    """Whether thing is a string, perhaps empty, of the characters 0 and 1."""
    return isinstance(thing, str) and thing.count("0") + thing.count("1") == len(thing)


def is_side(thing):
    """Whether thing is "sun" or "moon"."""
    return isinstance(thing, str) and thing in SIDES


def is_reader(thing):
    """Whether thing names a number by which a word is read."""
    return isinstance(thing, str) and thing in READERS
