"""Desk: an Evening that is led by lines, and asked by lines."""

from poleribbons.back import left_many
from poleribbons.errors import NoCommand
from poleribbons.evening import Evening
from poleribbons.forall import hangs_at, layers_at
from poleribbons.notation import show_deed, show_heap, show_log, show_meeting, show_rule
from poleribbons.texts import deed_in, meeting_in, numbers_and_rule_in, numbers_in


def _shown_meetings(meetings):
    return " ".join([show_meeting(meeting) for meeting in meetings]) if meetings else "none"


def _shown_truth(truth):
    return "yes" if truth else "no"


def _shown_list(evening, word):
    """The answer to a word that asks for meetings; None for any other one."""
    if word == "can":
        return _shown_meetings(evening.can())
    if word == "ends":
        return _shown_meetings(evening.ends())
    return _shown_meetings(evening.laid()) if word == "laid" else None


def _answer_to_word(evening, word):
    """The answer to a line of one word; None if it is none of these."""
    if word == "undo":
        return show_deed(evening.undo())
    if word == "redo":
        return show_deed(evening.redo())
    if word == "heap":
        return show_heap(evening.heap())
    if word == "log":
        return show_log(evening)
    if word == "rule":
        return show_rule(evening.rule)
    if word == "rounds":
        return str(evening.rounds_laid())
    if word == "holds":
        return _shown_truth(evening.holds())
    return _shown_list(evening, word)


def _answer_to_numbers(evening, word, rest):
    """The answer to a word with the three numbers of a dance; None if it is none of these."""
    found = numbers_and_rule_in(rest, 3) if word == "left" else None
    if found is not None:
        suns, moons, rounds = found[0]
        return str(left_many(evening.rule, found[1], suns, moons, rounds))
    numbers = numbers_in(rest, 3)
    if numbers is None or word not in ("hangs", "layers"):
        return None
    suns, moons, rounds = numbers
    if word == "hangs":
        return _shown_truth(hangs_at(evening.rule, suns, moons, rounds))
    return str(layers_at(evening.rule, suns, moons, rounds))


def _answer(evening, line):
    """The answer to a line, a string; None if it is no line of these."""
    deed = deed_in(line)
    if deed is not None:
        evening.do(deed)
        return "ok"
    word, blank, rest = line.partition(" ")
    if blank == "":
        return _answer_to_word(evening, word)
    if word == "finish":
        numbers = numbers_in(rest, 1)
        return None if numbers is None else _shown_meetings(evening.finish(numbers[0]))
    if word == "needed":
        meeting = meeting_in(rest)
        return None if meeting is None else _shown_meetings(evening.needed(meeting))
    return _answer_to_numbers(evening, word, rest)


class Desk:
    """Leads an Evening."""

    def __init__(self, suns, moons, rule):
        self._evening = Evening(suns, moons, rule)

    def execute(self, line):
        """The text that answers a line, any value."""
        answer = _answer(self._evening, line) if isinstance(line, str) else None
        if answer is None:
            raise NoCommand(line)
        return answer
