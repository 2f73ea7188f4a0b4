"""Pictures: what is seen of a cloth whose ribbons have colours."""

from poleribbons.dances import Dance
from poleribbons.errors import NoRibbon, Wrong
from poleribbons.ribbons import names_ribbon
from poleribbons.words import least_again, least_written


def _are_colours(thing):
    """Whether thing, any value, is a string of letters from a to z, not empty."""
    return isinstance(thing, str) and thing != "" and all(["a" <= sign <= "z" for sign in thing])


class Colours:
    """The colours of all ribbons, those of each side coming again and again."""

    def __init__(self, suns, moons):
        for place, thing in enumerate([suns, moons]):
            if not _are_colours(thing):
                raise Wrong(place)
        self._suns = suns
        self._moons = moons

    @property
    def suns(self):
        """The colours of the first sun dancers."""
        return self._suns

    @property
    def moons(self):
        """The colours of the first moon dancers."""
        return self._moons

    def __eq__(self, other):
        return (isinstance(other, Colours) and least_again(self._suns) == least_again(other._suns)
                and least_again(self._moons) == least_again(other._moons))

    def shown(self, ribbon):
        """The colour of a ribbon, any value."""
        if not names_ribbon(ribbon):
            raise NoRibbon(ribbon)
        side, number = ribbon
        row = self._suns if side == "sun" else self._moons
        return row[number % len(row)]


def _both(colours, i, j):
    """The colours of a sun dancer and of a moon dancer."""
    return [colours.shown(("sun", i)), colours.shown(("moon", j))]


def seen_at(dance, colours, meeting):
    """The colour of the ribbon that lies above at a meeting, any value."""
    above = dance.above(meeting)
    sun, moon = _both(colours, meeting[1], meeting[2])
    return sun if above else moon


def _seen_in_a_row(dance, colours, meetings):
    return "".join([seen_at(dance, colours, meeting) for meeting in meetings])


def picture_of(dance, colours):
    """The list of the pictures of the rounds, each the list of the sun dancers' strings of what is seen."""
    return [[_seen_in_a_row(dance, colours, [(r, i, j) for j in range(dance.moons)]) for i in range(dance.suns)]
            for r in range(dance.rounds)]


def levels_seen(dance, colours):
    """The list of the strings of what is seen at the meetings of each level."""
    return [_seen_in_a_row(dance, colours, level) for level in dance.levels()]


def _is_row(colours, i, moons, thing):
    """Whether thing, any value, can be what is seen at the meetings of a sun dancer in a round."""
    if not isinstance(thing, str) or len(thing) != moons:
        return False
    return all([sign in _both(colours, i, j) for j, sign in enumerate(thing)])


def _is_round(colours, suns, moons, thing):
    """Whether thing, any value, can be the picture of a round."""
    if not isinstance(thing, list) or len(thing) != suns:
        return False
    return all([_is_row(colours, i, moons, row) for i, row in enumerate(thing)])


def is_picture(colours, suns, moons, thing):
    """Whether thing, any value, is the picture of some cloth of so many dancers, in one round or more."""
    if not isinstance(thing, list) or len(thing) == 0:
        return False
    return all([_is_round(colours, suns, moons, rows) for rows in thing])


def many_shown(colours, thing):
    """How many cloths have this picture."""
    many = 1
    for rows in thing:
        for i, row in enumerate(rows):
            for j, sign in enumerate(row):
                # Where both ribbons have the colour that is seen, either may lie above.
                many = many * _both(colours, i, j).count(sign)
    return many


def comes_again(rule, colours, suns, moons):
    """The least tuple of the round from which on pictures come again, and of how many rounds later they do."""
    # From the rule's lead on, each round is laid as that a period later.
    rounds = picture_of(Dance(suns, moons, rule.lead + rule.period, rule), colours)
    early, again = least_written(rounds[:rule.lead], rounds[rule.lead:])
    return (len(early), len(again))
