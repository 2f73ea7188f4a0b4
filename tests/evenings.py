"""An evening by the plain words of the document, told anew from its deeds at each question; and deeds to lead it by."""

import random

from poleribbons.rules import Rule
from samples import RULES


def following(s, m, meeting):
    """The meetings that the two dancers of one have next, in rounds without end."""
    r, i, j = meeting
    return {(r, i, j + 1) if j + 1 < m else (r + 1, i, 0), (r, i + 1, j) if i + 1 < s else (r + 1, 0, j)}


def all_ahead(s, m, meeting):
    """All meetings that come before one in every order, round by round."""
    found = set()
    waiting = [meeting]
    meetings = [(r, i, j) for r in range(meeting[0] + 1) for i in range(s) for j in range(m)]
    while waiting:
        at = waiting.pop()
        for other in meetings:
            if at in following(s, m, other) and other not in found:
                found.add(other)
                waiting.append(other)
    return found


class Model:
    """What an Evening must tell."""

    def __init__(self, s, m, first):
        self.s, self.m, self.first, self.log, self.undone = s, m, first, [], []

    def state(self):
        laid, rule = {}, self.first
        for word, what in self.log:
            if word == "rule":
                rule = Rule.of(what)
            elif word == "lay":
                laid[what] = rule(*what, self.s, self.m)
            else:
                laid.pop(what)
        return laid, rule

    def laid(self):
        return self.state()[0]

    def near(self):
        """All meetings of the rounds that are laid, and of the next one."""
        last = max([r for r, _, _ in self.laid()], default=-1)
        return [(r, i, j) for r in range(last + 2) for i in range(self.s) for j in range(self.m)]

    def needed(self, meeting):
        laid = self.laid()
        return sorted(other for other in all_ahead(self.s, self.m, meeting) if other not in laid)

    def can(self):
        laid = self.laid()
        return [one for one in self.near() if one not in laid and not self.needed(one)]

    def ends(self):
        laid = self.laid()
        return sorted(one for one in laid if not any(other in laid for other in following(self.s, self.m, one)))

    def can_do(self, deed):
        return deed[0] == "rule" or deed[1] in (self.can() if deed[0] == "lay" else self.ends())

    def lacking(self, rounds):
        laid = self.laid()
        meetings = [(r, i, j) for r in range(rounds) for i in range(self.s) for j in range(self.m)]
        most = max(self.s, self.m)
        lacking = [(r * most + i + j, (r, i, j)) for r, i, j in meetings if (r, i, j) not in laid]
        return [meeting for _, meeting in sorted(lacking)]

    def rounds_laid(self):
        laid, many = self.laid(), 0
        while all((many, i, j) in laid for i in range(self.s) for j in range(self.m)):
            many += 1
        return many

    def holds(self):
        ribbons = [("sun", i) for i in range(self.s)] + [("moon", j) for j in range(self.m)]
        steps = {(a, a) for a in ribbons}
        for (_, i, j), above in self.laid().items():
            steps.add((("sun", i), ("moon", j)) if above else (("moon", j), ("sun", i)))
        for b in ribbons:
            steps |= {(a, c) for a in ribbons for c in ribbons if (a, b) in steps and (b, c) in steps}
        return len(steps) == len(ribbons) ** 2


def some_deed(chance, model):
    """A deed that may be done, or one that may be refused, or one of dancers that there are not."""
    word = chance.choice(["lay"] * 6 + ["take"] * 3 + ["rule"])
    if word == "rule":
        return (word, chance.choice(RULES).parts())
    choices = model.can() if word == "lay" else model.ends()
    if choices and chance.random() < 0.8:
        return (word, chance.choice(choices))
    return (word, (chance.randrange(3), chance.randrange(model.s), chance.randrange(model.m)))


def some_acts(seed, many):
    """Words for what is done to an evening one behind another, with a source of chance for each."""
    chance = random.Random(seed)
    return [(chance.choice(["do"] * 8 + ["undo"] * 3 + ["redo"] * 3 + ["finish"]), random.Random(chance.random()))
            for _ in range(many)]
