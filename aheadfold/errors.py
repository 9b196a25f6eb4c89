"""What is refused, and the fields that tell where and why.

Each class stands directly under one of the three bases, and says its own
name in `word`, so that a caller can tell refusals apart without asking for
their classes.
"""


class FoldError(ValueError):
    """What was handed in, or asked for, cannot be."""

    def __init__(self, why="it cannot be"):
        ValueError.__init__(self, why)
        self.word = "FoldError"


class Lost(LookupError):
    """There is nothing by that name."""

    def __init__(self, why="there is nothing by that name"):
        LookupError.__init__(self, why)
        self.word = "Lost"


class NothingLeft(IndexError):
    """No step is left to take back, or to do again."""

    def __init__(self):
        IndexError.__init__(self, "no step is left")
        self.word = "NothingLeft"


class BadWeb(FoldError):
    """No web: `at` is -1 for its rooms, else the number of the arrow, or their count."""

    def __init__(self, at):
        FoldError.__init__(self, f"this is no web: {at}")
        self.word = "BadWeb"
        self.at = at


class BadRoom(FoldError):
    """No room of the web."""

    def __init__(self):
        FoldError.__init__(self, "the web has no such room")
        self.word = "BadRoom"


class BadArrow(FoldError):
    """No arrow of the web, or one that cannot stand there."""

    def __init__(self):
        FoldError.__init__(self, "no such arrow can stand there")
        self.word = "BadArrow"


class BadFold(FoldError):
    """Two rooms that do not fold."""

    def __init__(self):
        FoldError.__init__(self, "these rooms do not fold")
        self.word = "BadFold"


class BadPart(FoldError):
    """No part by which the room can be split."""

    def __init__(self):
        FoldError.__init__(self, "the room cannot be split by this part")
        self.word = "BadPart"


class BadNaming(FoldError):
    """No naming of the web."""

    def __init__(self):
        FoldError.__init__(self, "this is no naming of the web")
        self.word = "BadNaming"


class BadWalk(FoldError):
    """No walk, or no row that can be read: `at` is the first place that is wrong."""

    def __init__(self, at):
        FoldError.__init__(self, f"the arrows do not follow one another: {at}")
        self.word = "BadWalk"
        self.at = at


class BadBeat(FoldError):
    """A beat, or a number of beats, out of its bounds."""

    def __init__(self):
        FoldError.__init__(self, "there is no such beat")
        self.word = "BadBeat"


class BadWindow(FoldError):
    """A window or a length out of its bounds."""

    def __init__(self):
        FoldError.__init__(self, "the length is out of its bounds")
        self.word = "BadWindow"


class BadTable(FoldError):
    """No table of a reader: `row` is the first row that is wrong."""

    def __init__(self, row):
        FoldError.__init__(self, f"the table is wrong for the row {row}")
        self.word = "BadTable"
        self.row = row


class Apart(FoldError):
    """Two things that do not meet in one web."""

    def __init__(self):
        FoldError.__init__(self, "the two do not meet in one web")
        self.word = "Apart"


class TooMany(FoldError):
    """More than is let: `most` is how many are."""

    def __init__(self, most):
        FoldError.__init__(self, f"more than {most}")
        self.word = "TooMany"
        self.most = most


class NotBack(FoldError):
    """A reader without a way back."""

    def __init__(self):
        FoldError.__init__(self, "the reader has no way back")
        self.word = "NotBack"


class BadText(FoldError):
    """No text of a reader: `at` is the row of the text that cannot stand there."""

    def __init__(self, at):
        FoldError.__init__(self, f"the text is wrong in its row {at}")
        self.word = "BadText"
        self.at = at


class BadName(FoldError):
    """No name for a thing of a store."""

    def __init__(self):
        FoldError.__init__(self, "this is no name")
        self.word = "BadName"


class Taken(FoldError):
    """A name that a thing of the store has already."""

    def __init__(self):
        FoldError.__init__(self, "the name is taken")
        self.word = "Taken"


class Full(FoldError):
    """The store has no place for one more thing of this kind."""

    def __init__(self):
        FoldError.__init__(self, "the store is full")
        self.word = "Full"


class Wide(FoldError):
    """A web with more rooms or arrows than are let there."""

    def __init__(self):
        FoldError.__init__(self, "the web has too many rooms or arrows")
        self.word = "Wide"


class Used(FoldError):
    """A web that is still used: `by` is the name of a reader or walker of it."""

    def __init__(self, by):
        FoldError.__init__(self, f"the web is used by {by}")
        self.word = "Used"
        self.by = by


class BadDeed(FoldError):
    """No deed of a store."""

    def __init__(self):
        FoldError.__init__(self, "this is no deed")
        self.word = "BadDeed"


class Stopped(FoldError):
    """One of several deeds was refused: `at` is its number, `kind` the word of the refusal."""

    def __init__(self, at, kind):
        FoldError.__init__(self, f"deed {at} was refused with {kind}")
        self.word = "Stopped"
        self.at = at
        self.kind = kind


class BadPage(FoldError):
    """No page of a store: `row` is its first row that is wrong."""

    def __init__(self, row):
        FoldError.__init__(self, f"the page is wrong in its row {row}")
        self.word = "BadPage"
        self.row = row


class NoWeb(Lost):
    """No web of the store has this name."""

    def __init__(self, name):
        Lost.__init__(self, f"no web has the name {name}")
        self.word = "NoWeb"
        self.name = name


class NoReader(Lost):
    """No reader of the store has this name."""

    def __init__(self, name):
        Lost.__init__(self, f"no reader has the name {name}")
        self.word = "NoReader"
        self.name = name


class NoWalker(Lost):
    """No walker of the store has this name."""

    def __init__(self, name):
        Lost.__init__(self, f"no walker has the name {name}")
        self.word = "NoWalker"
        self.name = name


class NoName(Lost):
    """Nothing in the store has this name."""

    def __init__(self, name):
        Lost.__init__(self, f"nothing has the name {name}")
        self.word = "NoName"
        self.name = name
