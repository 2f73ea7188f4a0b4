"""Evenings: dances led meeting by meeting, with rounds without end, by rules that may change on the way."""

from poleribbons.dances import Dance, names_endless_meeting
from poleribbons.errors import Full, NoDeed, NoEntry, NoMeeting, NotLaid, Nothing, Refused, Wrong
from poleribbons.heaps import Heap
from poleribbons.kinds import is_count, is_number
from poleribbons.rules import Rule, are_parts
from poleribbons.steps import is_whole, steps_in

MOST_DEEDS = 200
MEETING_WORDS = ("lay", "take")


class Evening:
    """What is laid, and all deeds that led to it, one behind another."""

    def __init__(self, suns, moons, rule):
        for place, number in enumerate([suns, moons]):
            if not is_number(number):
                raise Wrong(place)
        if not isinstance(rule, Rule):
            raise Wrong(2)
        self._suns = suns
        self._moons = moons
        self._first = rule
        self._rule = rule
        # From each meeting that is laid to whether the sun dancer's ribbon lies above there.
        self._laid = {}
        self._log = []
        # The deeds that can be done again, the next one last.
        self._undone = []

    @property
    def suns(self):
        """How many sun dancers there are."""
        return self._suns

    @property
    def moons(self):
        """How many moon dancers there are."""
        return self._moons

    @property
    def first(self):
        """The Rule that was passed."""
        return self._first

    @property
    def rule(self):
        """The present Rule."""
        return self._rule

    def __len__(self):
        return len(self._log)

    def __iter__(self):
        return iter(self._log)

    def __eq__(self, other):
        return (isinstance(other, Evening) and self._suns == other._suns and self._moons == other._moons
                and self._first == other._first and self._log == other._log)

    def log(self):
        """The list of the deeds done."""
        return list(self._log)

    def laid(self):
        """The ascending list of the meetings that are laid."""
        return sorted(self._laid)

    def _is_meeting(self, thing):
        return names_endless_meeting(self._suns, self._moons, thing)

    def above(self, meeting):
        """Whether the sun dancer's ribbon was laid above at a meeting, any value."""
        if not self._is_meeting(meeting) or meeting not in self._laid:
            raise NotLaid(meeting)
        return self._laid[meeting]

    def _many_laid(self):
        """The dict from the ribbons of all dancers to how many of their meetings are laid."""
        many = {("sun", i): 0 for i in range(self._suns)}
        for j in range(self._moons):
            many[("moon", j)] = 0
        for _, i, j in self._laid:
            many[("sun", i)] += 1
            many[("moon", j)] += 1
        return many

    def _meetings_of_both(self, back):
        """The ascending list of the meetings that stand, for both dancers, so many back from what they come to next."""
        many = self._many_laid()
        found = []
        for i in range(self._suns):
            number = many[("sun", i)] - back
            r, j = divmod(number, self._moons)
            if number >= 0 and many[("moon", j)] - back == r * self._suns + i:
                found.append((r, i, j))
        return sorted(found)

    def can(self):
        """The ascending list of the meetings that can be laid next."""
        return self._meetings_of_both(0)

    def ends(self):
        """The ascending list of the laid meetings that can be taken off."""
        return self._meetings_of_both(1)

    def needed(self, meeting):
        """The ascending list of the meetings that must be laid before this one, any value, can be."""
        if not self._is_meeting(meeting):
            raise NoMeeting(meeting)
        dance = Dance(self._suns, self._moons, meeting[0] + 1, self._rule)
        return [other for other in dance.meetings() if other not in self._laid and dance.ahead(other, meeting)]

    def _is_deed(self, thing):
        """Whether thing, any value, is a deed by its form."""
        if not isinstance(thing, tuple) or len(thing) != 2:
            return False
        word, what = thing
        if word in MEETING_WORDS:
            return self._is_meeting(what)
        return word == "rule" and are_parts(what)

    def _is_refused(self, deed):
        word, what = deed
        return word == "lay" and what not in self.can() or word == "take" and what not in self.ends()

    def _carry_out(self, deed):
        """Do a deed that can be done."""
        word, what = deed
        if word == "rule":
            self._rule = Rule.of(what)
        elif word == "lay":
            r, i, j = what
            self._laid[what] = self._rule(r, i, j, self._suns, self._moons)
        else:
            del self._laid[what]
        self._log.append(deed)

    def do(self, deed):
        """Do a deed, any value."""
        if not self._is_deed(deed):
            raise NoDeed(deed)
        if len(self._log) >= MOST_DEEDS:
            raise Full(MOST_DEEDS)
        if self._is_refused(deed):
            raise Refused(deed)
        self._carry_out(deed)
        self._undone = []

    def undo(self):
        """Undo the last deed, and return it."""
        if not self._log:
            raise Nothing()
        # What a deed has changed is told by the deeds ahead of it alone.
        before = self.past(len(self._log) - 1)
        deed = self._log[-1]
        self._undone.append(deed)
        self._log = before._log
        self._laid = before._laid
        self._rule = before._rule
        return deed

    def redo(self):
        """Do the deed that was undone last, and return it."""
        if not self._undone:
            raise Nothing()
        deed = self._undone.pop()
        self._carry_out(deed)
        return deed

    def finish(self, rounds):
        """Lay what lacks of so many first rounds, and return the list of these meetings."""
        had = len([1 for r, _, _ in self._laid if r < rounds])
        # Many rounds are not gone through before it is known that they go in.
        if len(self._log) + self._suns * self._moons * rounds - had > MOST_DEEDS:
            raise Full(MOST_DEEDS)
        levels = Dance(self._suns, self._moons, rounds, self._rule).levels()
        lacking = [meeting for level in levels for meeting in level if meeting not in self._laid]
        for meeting in list(lacking):
            self._carry_out(("lay", meeting))
        if lacking:
            self._undone = []
        return lacking

    def rounds_laid(self):
        """How many rounds are laid whole, from the first one on."""
        many = self._many_laid()
        return min([many[("sun", i)] // self._moons for i in range(self._suns)])

    def heap(self):
        """The Heap of what is laid."""
        return Heap([(i, j, self._laid[(r, i, j)], True) for r, i, j in self.laid()])

    def holds(self):
        """Whether the cloth that is laid hangs together, with the ribbons of all dancers."""
        cloth = {(i, j): "" for i in range(self._suns) for j in range(self._moons)}
        for r, i, j in self.laid():
            cloth[(i, j)] += "1" if self._laid[(r, i, j)] else "0"
        return is_whole(steps_in(cloth))

    def past(self, many):
        """A new Evening with the first many deeds alone."""
        if not is_count(many) or many > len(self._log):
            raise NoEntry(many)
        evening = Evening(self._suns, self._moons, self._first)
        for deed in list(self._log[:many]):
            evening._carry_out(deed)
        return evening

    def copied(self):
        """A copy, with what can be done again."""
        evening = self.past(len(self._log))
        evening._undone = list(self._undone)
        return evening

    def trial(self, act):
        """What act returns for this Evening; then all is as it was, also if an error came."""
        kept = self.copied()
        try:
            return act(self)
        finally:
            self._rule = kept._rule
            self._laid = kept._laid
            self._log = kept._log
            self._undone = kept._undone
