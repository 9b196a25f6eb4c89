"""Readers: tables that turn the walks of one web into walks of another one, looking ahead."""

from aheadfold.errors import Apart, BadTable, BadWalk, TooMany
from aheadfold.walkers import Walker
from aheadfold.webs import MOST_WINDOW


def need_arrows(rows, other, table):
    """Refuse a table that lacks a row, or has no arrow of the other web for it."""
    for row in rows:
        if row not in table or not other.has_arrow(table[row]):
            raise BadTable(row)


def need_keys(rows, table):
    """Refuse a table with a key that is no row of the window's length."""
    known = set(rows)
    for key in sorted(table):
        if key not in known:
            raise BadTable(key)


def need_following(web, other, rows, table):
    """Refuse a table whose arrows do not follow one another where its rows do."""
    for row in rows:
        for arrow in web.after(row[-1]):
            if not other.follows(table[row[1:] + (arrow,)], table[row]):
                raise BadTable(row + (arrow,))


def is_enough(rules, look):
    """Whether the first so many arrows of each row tell its arrow."""
    told = {}
    for row, arrow in rules.items():
        if told.setdefault(row[:look], arrow) != arrow:
            return False
    return True


def fewest_enough(rules, look):
    """The least window that is enough for rules of this window."""
    for fewer in range(1, look):
        if is_enough(rules, fewer):
            return fewer
    return look


class Reader:
    """A table from rows of one web to arrows of another one. No reader changes."""

    def __init__(self, web, other, window, table):
        rows = web.rows(window)
        need_arrows(rows, other, table)
        need_keys(rows, table)
        need_following(web, other, rows, table)
        self.source = web
        self.target = other
        self.look = window
        self.rules = {row: table[row] for row in rows}
        self.least_look = fewest_enough(self.rules, window)
        self.least_rules = {row[:self.least_look]: arrow for row, arrow in self.rules.items()}

    def __eq__(self, other):
        # There is just one least form, and the rows of its table tell its window by their length.
        return (isinstance(other, Reader) and self.source == other.source and self.target == other.target
                and self.least_rules == other.least_rules)

    def __len__(self):
        return len(self.rules)

    def __repr__(self):
        return f"Reader({self.look} ahead, {len(self.rules)} rows)"

    def web(self):
        """The web from which it leads."""
        return self.source

    def other(self):
        """The web to which it leads."""
        return self.target

    def window(self):
        """At how many arrows it looks."""
        return self.look

    def table(self):
        """The dict of its rows and their arrows, rising."""
        return {row: arrow for row, arrow in self.rules.items()}

    def arrow(self, row):
        """The arrow of a row of the window's length."""
        if tuple(row) not in self.rules:
            raise BadWalk(0)
        return self.rules[tuple(row)]

    def reading(self, row):
        """The list of arrows that it makes of a row as long as the window, or longer."""
        if len(row) < self.look or not self.source.is_row(row):
            raise BadWalk(0)
        return self.arrows_of(tuple(row))

    def made(self, walker):
        """The walker that it makes of one in its first web."""
        if walker.web() != self.source:
            raise Apart()
        ahead = len(walker.ahead())
        beats = ahead + len(walker.ring())
        # So many arrows that each beat up to the end of the first ring sees its whole window.
        seen = tuple([walker.arrow(beat) for beat in range(beats + self.look - 1)])
        arrows = self.arrows_of(seen)
        return Walker(self.target, arrows[:ahead], arrows[ahead:])

    def least(self):
        """The reader with the least window that makes the same of each walk."""
        return Reader(self.source, self.target, self.least_look, self.least_rules)

    def arrows_of(self, row):
        """The list of arrows for each window's length of a tuple that is a row."""
        return [self.rules[row[at:at + self.look]] for at in range(len(row) - self.look + 1)]


def same(web):
    """The reader that makes of each walk itself."""
    return Reader(web, web, 1, {row: row[0] for row in web.rows(1)})


def joined(one, other):
    """What the other reader makes of what the first one makes, in least form."""
    if one.other() != other.web():
        raise Apart()
    near = one.least()
    far = other.least()
    window = near.window() + far.window() - 1
    if window > MOST_WINDOW:
        raise TooMany(MOST_WINDOW)
    rows = near.web().rows(window)
    table = {row: far.arrow(near.arrows_of(row)) for row in rows}
    return Reader(near.web(), far.other(), window, table).least()
