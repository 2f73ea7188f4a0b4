"""Programmes: dances that are laid and taken off, one behind another."""

from poleribbons.dances import Dance
from poleribbons.errors import Unfit, Wrong
from poleribbons.heaps import Heap, heap_of
from poleribbons.kinds import is_number
from poleribbons.rules import Rule

TURNED_WORDS = {"on": "back", "back": "on"}


def _is_act(thing):
    """Whether thing, any value, is an act."""
    if not isinstance(thing, tuple) or len(thing) != 3:
        return False
    word, rounds, rule = thing
    return isinstance(word, str) and word in TURNED_WORDS and is_number(rounds) and isinstance(rule, Rule)


def _joined_heap(heaps):
    """The Heap of some, one behind another."""
    return Heap([piece for heap in heaps for piece in heap])


class Programme:
    """Acts of so many dancers: each lays a dance, or takes one off."""

    def __init__(self, suns, moons, acts):
        for place, number in enumerate([suns, moons]):
            if not is_number(number):
                raise Wrong(place)
        if not isinstance(acts, (list, tuple)) or not all([_is_act(act) for act in acts]):
            raise Wrong(2)
        self._suns = suns
        self._moons = moons
        self._acts = list(acts)

    @property
    def suns(self):
        """How many sun dancers there are."""
        return self._suns

    @property
    def moons(self):
        """How many moon dancers there are."""
        return self._moons

    def __len__(self):
        return len(self._acts)

    def __eq__(self, other):
        return (isinstance(other, Programme) and self._suns == other._suns and self._moons == other._moons
                and self._acts == other._acts)

    def __add__(self, other):
        if self._suns != other._suns or self._moons != other._moons:
            raise Unfit()
        return Programme(self._suns, self._moons, self._acts + other._acts)

    def acts(self):
        """The list of its acts."""
        return list(self._acts)

    def _heap_of_act(self, act):
        word, rounds, rule = act
        laid = heap_of(Dance(self._suns, self._moons, rounds, rule))
        return laid if word == "on" else ~laid

    def _heaps(self):
        return [self._heap_of_act(act) for act in self._acts]

    def heap(self):
        """The Heap of all acts, one behind another."""
        return _joined_heap(self._heaps())

    def needless(self):
        """The ascending list of the indexes of the acts without each of which, alone, it has the same Heap."""
        heaps = self._heaps()
        whole = _joined_heap(heaps)
        return [at for at in range(len(heaps)) if _joined_heap(heaps[:at] + heaps[at + 1:]) == whole]

    def least(self):
        """The least of the shortest lists of indexes of acts that alone have the same Heap."""
        heaps = self._heaps()
        whole = _joined_heap(heaps)
        choices = [[]]
        for index in range(len(heaps)):
            choices = choices + [choice + [index] for choice in choices]
        same = [choice for choice in choices if _joined_heap([heaps[at] for at in choice]) == whole]
        return min(same, key=lambda choice: (len(choice), choice))

    def turned(self):
        """The Programme of the acts the other way round, "on" and "back" exchanged."""
        acts = [(TURNED_WORDS[word], rounds, rule) for word, rounds, rule in self._acts[::-1]]
        return Programme(self._suns, self._moons, acts)
