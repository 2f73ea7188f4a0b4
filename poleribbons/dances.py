"""Dances: so many sun and moon dancers, so many rounds, and the rule by which ribbons are laid."""

from poleribbons.errors import NoMeeting, Wrong
from poleribbons.kinds import is_count, is_number
from poleribbons.rules import Rule


def names_endless_meeting(suns, moons, thing):
    """Whether thing, any value, is a meeting of a dance of so many dancers, with rounds without end."""
    if not isinstance(thing, tuple) or len(thing) != 3 or not all([is_count(number) for number in thing]):
        return False
    return thing[1] < suns and thing[2] < moons


def names_meeting(suns, moons, rounds, thing):
    """Whether thing, any value, is a meeting of a dance of these numbers."""
    return names_endless_meeting(suns, moons, thing) and thing[0] < rounds


def all_meetings(suns, moons, rounds):
    """The ascending list of all meetings of a dance of these numbers."""
    return [(r, i, j) for r in range(rounds) for i in range(suns) for j in range(moons)]


class Dance:
    """All meetings (r, i, j) of the sun dancers i and the moon dancers j in the rounds r."""

    def __init__(self, suns, moons, rounds, rule):
        for place, number in enumerate([suns, moons, rounds]):
            if not is_number(number):
                raise Wrong(place)
        if not isinstance(rule, Rule):
            raise Wrong(3)
        self._suns = suns
        self._moons = moons
        self._rounds = rounds
        self._rule = rule

    @property
    def suns(self):
        """How many sun dancers there are."""
        return self._suns

    @property
    def moons(self):
        """How many moon dancers there are."""
        return self._moons

    @property
    def rounds(self):
        """How many rounds there are."""
        return self._rounds

    @property
    def rule(self):
        """The Rule that tells what lies above."""
        return self._rule

    def __eq__(self, other):
        return (isinstance(other, Dance) and self._suns == other._suns and self._moons == other._moons
                and self._rounds == other._rounds and self._rule == other._rule)

    def is_meeting(self, thing):
        """Whether thing, any value, is a meeting of the dance."""
        return names_meeting(self._suns, self._moons, self._rounds, thing)

    def _need_meeting(self, thing):
        if not self.is_meeting(thing):
            raise NoMeeting(thing)

    def meetings(self):
        """The ascending list of all meetings."""
        return all_meetings(self._suns, self._moons, self._rounds)

    def size(self):
        """How many meetings there are."""
        return self._suns * self._moons * self._rounds

    def above(self, meeting):
        """Whether the sun dancer's ribbon lies above at a meeting."""
        self._need_meeting(meeting)
        r, i, j = meeting
        return self._rule(r, i, j, self._suns, self._moons)

    def counts(self, meeting):
        """The numbers of a meeting among the sun dancer's and among the moon dancer's meetings."""
        self._need_meeting(meeting)
        r, i, j = meeting
        return (r * self._moons + j, r * self._suns + i)

    def behind(self, meeting):
        """The ascending list of the meetings that the two dancers of one have next."""
        self._need_meeting(meeting)
        r, i, j = meeting
        of_sun = (r, i, j + 1) if j + 1 < self._moons else (r + 1, i, 0)
        of_moon = (r, i + 1, j) if i + 1 < self._suns else (r + 1, 0, j)
        return sorted(set([following for following in (of_sun, of_moon) if following[0] < self._rounds]))

    def ahead(self, one, other):
        """Whether a meeting comes before another one in every order that can be."""
        self._need_meeting(one)
        self._need_meeting(other)
        r, i, j = one
        s, k, l = other
        # Who goes back to a lesser number waits for the next round: once for each side that does.
        waits = [k < i, l < j].count(True)
        return one != other and s - r >= waits

    def level(self, meeting):
        """How many meetings at the most stand one behind another ahead of this one."""
        self._need_meeting(meeting)
        r, i, j = meeting
        return r * max(self._suns, self._moons) + i + j

    def levels(self):
        """The list of the ascending lists of the meetings of each level."""
        last = (self._rounds - 1, self._suns - 1, self._moons - 1)
        found = [[] for _ in range(self.level(last) + 1)]
        for meeting in self.meetings():
            found[self.level(meeting)].append(meeting)
        return found

    def is_order(self, thing):
        """Whether thing, any value, is a list of all meetings in an order in which they can take place."""
        if not isinstance(thing, list) or len(thing) != self.size():
            return False
        had = {}
        for meeting in thing:
            if not self.is_meeting(meeting):
                return False
            sun = ("sun", meeting[1])
            moon = ("moon", meeting[2])
            if self.counts(meeting) != (had.get(sun, 0), had.get(moon, 0)):
                return False
            had[sun] = had.get(sun, 0) + 1
            had[moon] = had.get(moon, 0) + 1
        return True

    def swapped(self):
        """The Dance of the same cloth with both sides exchanged."""
        return Dance(self._moons, self._suns, self._rounds, self._rule.swapped())
