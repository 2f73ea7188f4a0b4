"""The errors of the package. Each keeps the very objects that it was made of."""


class RibbonError(ValueError):
    """What all errors of the package are; it is raised nowhere itself."""


class Wrong(RibbonError):
    """The argument at this place, from 0, is not as described."""

    def __init__(self, place):
        self.place = place


class NoRule(RibbonError):
    """A value is not the parts of a rule."""

    def __init__(self, thing):
        self.thing = thing


class NoMeeting(RibbonError):
    """A value is no meeting."""

    def __init__(self, meeting):
        self.meeting = meeting


class NoRibbon(RibbonError):
    """A value is no ribbon."""

    def __init__(self, ribbon):
        self.ribbon = ribbon


class NoRing(RibbonError):
    """A value is no ring."""

    def __init__(self, ring):
        self.ring = ring


class NoCloth(RibbonError):
    """A value is no number of a cloth."""

    def __init__(self, number):
        self.number = number


class NoSlip(RibbonError):
    """A value is not crossings with just one meeting laid wrong."""

    def __init__(self, thing):
        self.thing = thing


class Unfit(RibbonError):
    """Two programmes have not the same dancers."""


class TooMany(RibbonError):
    """There are more than may be asked for."""

    def __init__(self, limit):
        self.limit = limit


class NotLaid(RibbonError):
    """A value is no meeting that is laid."""

    def __init__(self, meeting):
        self.meeting = meeting


class NoDeed(RibbonError):
    """A value is no deed by its form."""

    def __init__(self, deed):
        self.deed = deed


class Refused(RibbonError):
    """A deed cannot be done now."""

    def __init__(self, deed):
        self.deed = deed


class Full(RibbonError):
    """So many deeds are done that no more go in."""

    def __init__(self, limit):
        self.limit = limit


class Nothing(RibbonError):
    """There is nothing to undo, or to do again."""


class NoEntry(RibbonError):
    """There are not so many deeds."""

    def __init__(self, many):
        self.many = many


class NoText(RibbonError):
    """A value is no text that is shown."""

    def __init__(self, text):
        self.text = text


class Broken(RibbonError):
    """The deed of this line, from 0, cannot be done."""

    def __init__(self, line):
        self.line = line


class NoCommand(RibbonError):
    """A value is no line that the desk knows."""

    def __init__(self, line):
        self.line = line
