"""All refusals, and the two troubles of a Shelf; the fields hold what was handed in."""


class StillError(ValueError):
    """What is handed in, or asked for now, can't be done."""


class NoShape(StillError):
    """No columns that are a shape once they are numbered."""


class NoCond(StillError):
    """No condition."""


class NoRule(StillError):
    """No rule of parts."""


class Full(StillError):
    """A shape has eight columns already."""


class Last(StillError):
    """A shape's only column can't go."""


class Busy(StillError):
    """A Writer is in the midst of a commit."""


class NoLine(StillError):
    """No row that a Desk answers."""


class NoName(StillError):
    """No name."""

    def __init__(self, name):
        self.name = name


class Taken(StillError):
    """A name that another one has."""

    def __init__(self, name):
        self.name = name


class NoFit(StillError):
    """A worth, a way or a kind that doesn't fit the column of this name."""

    def __init__(self, name):
        self.name = name


class Used(StillError):
    """A column that the rule of parts needs."""

    def __init__(self, name):
        self.name = name


class NoChange(StillError):
    """No change of a shape at this place, or no tuple of changes (-1)."""

    def __init__(self, place):
        self.place = place


class NoRow(StillError):
    """No row at this place, or no tuple of rows (-1)."""

    def __init__(self, place):
        self.place = place


class NoDeed(StillError):
    """No deed of a plain table."""

    def __init__(self, deed):
        self.deed = deed


class NoText(StillError):
    """No text of a content, from this line on."""

    def __init__(self, row):
        self.row = row


class TooLate(StillError):
    """A work's base is too old."""

    def __init__(self, base):
        self.base = base


class Tired(StillError):
    """So many tries led to no commit."""

    def __init__(self, tries):
        self.tries = tries


class NotNow(StillError):
    """A call that isn't due at this stage."""

    def __init__(self, state):
        self.state = state


class Over(StillError):
    """A Reader whose time is over since this moment."""

    def __init__(self, until):
        self.until = until


class Clash(StillError):
    """A commit that touches a work."""

    def __init__(self, number, word, file):
        self.number = number
        self.word = word
        self.file = file


class Missing(KeyError):
    """What is asked for isn't there."""


class NoColumn(Missing):
    """No column is called so."""

    def __init__(self, name):
        self.name = name


class NoFile(Missing):
    """No such file."""

    def __init__(self, file):
        self.file = file


class NoTable(Missing):
    """No table is called so."""

    def __init__(self, name):
        self.name = name


class NoCommit(Missing):
    """No commit of this number is told."""

    def __init__(self, number):
        self.number = number


class NoTag(Missing):
    """No tag is called so."""

    def __init__(self, name):
        self.name = name


class NoWriter(Missing):
    """No Writer of this title was made."""

    def __init__(self, name):
        self.name = name


class Trouble(ArithmeticError):
    """A step of a Shelf was met by a trouble."""


class Crash(Trouble):
    """The step isn't done, and who took it is dead."""

    def __init__(self, step):
        self.step = step


class Lost(Trouble):
    """The step's answer was lost."""

    def __init__(self, step):
        self.step = step
