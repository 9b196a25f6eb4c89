"""Webs: rooms, and arrows that lead from room to room."""

from aheadfold.errors import BadArrow, BadRoom, BadWeb, BadWindow, TooMany

MOST_ROOMS = 100
MOST_ARROWS = 400
MOST_ROWS = 600
MOST_WINDOW = 6
MOST_LENGTH = 60


def is_pair(thing, rooms):
    """Whether a thing is a pair of rooms, of so many rooms."""
    return len(thing) == 2 and 0 <= thing[0] < rooms and 0 <= thing[1] < rooms


def pairs_of(rooms, arrows):
    """The handed arrows as a tuple of tuples, which no later change can reach."""
    pairs = []
    for at, thing in enumerate(arrows):
        if at >= MOST_ARROWS or not is_pair(thing, rooms):
            raise BadWeb(at)
        pairs.append((thing[0], thing[1]))
    return tuple(pairs)


def gathered(rooms, places):
    """For each room the rising tuple of the arrows that have it as their place."""
    found = [[] for room in range(rooms)]
    for arrow, room in enumerate(places):
        found[room].append(arrow)
    return tuple([tuple(arrows) for arrows in found])


def one_more(ways, pairs):
    """How many rows lead from room to room, with one arrow more than in `ways`."""
    longer = []
    for counts in ways:
        reached = [0] * len(counts)
        for begin, end in pairs:
            reached[end] += counts[begin]
        longer.append(reached)
    return longer


class Web:
    """So many rooms, and arrows, each a pair (from, to) of rooms. No web changes."""

    def __init__(self, rooms, arrows):
        if not 1 <= rooms <= MOST_ROOMS:
            raise BadWeb(-1)
        pairs = pairs_of(rooms, arrows)
        leaving = gathered(rooms, [pair[0] for pair in pairs])
        if () in leaving:
            raise BadWeb(len(pairs))
        self.room_total = rooms
        self.pairs = pairs
        self.leaving = leaving
        self.entering = gathered(rooms, [pair[1] for pair in pairs])

    def __eq__(self, other):
        return isinstance(other, Web) and self.room_total == other.room_total and self.pairs == other.pairs

    def __len__(self):
        return len(self.pairs)

    def __repr__(self):
        return f"Web({self.room_total} rooms, {len(self.pairs)} arrows)"

    def rooms(self):
        """How many rooms there are."""
        return self.room_total

    def arrows(self):
        """The list of arrows, pairs of rooms."""
        return list(self.pairs)

    def begin(self, arrow):
        """The room in which an arrow begins."""
        self.need_arrow(arrow)
        return self.pairs[arrow][0]

    def end(self, arrow):
        """The room to which an arrow leads."""
        self.need_arrow(arrow)
        return self.pairs[arrow][1]

    def outs(self, room):
        """The arrows that begin in a room, rising."""
        self.need_room(room)
        return list(self.leaving[room])

    def ins(self, room):
        """The arrows that lead to a room, rising."""
        self.need_room(room)
        return list(self.entering[room])

    def leading(self, one, other):
        """How many arrows lead from one room to the other."""
        self.need_room(one)
        self.need_room(other)
        return self.pairs.count((one, other))

    def many(self, length):
        """How many rows of a length there are; of the length 0 one from each room."""
        if not 0 <= length <= MOST_LENGTH:
            raise BadWindow()
        counts = [1] * self.room_total
        for step in range(length):
            counts = [sum([counts[self.pairs[arrow][1]] for arrow in outs]) for outs in self.leaving]
        return sum(counts)

    def rounds(self, length):
        """How many rounds of a length there are."""
        if not 1 <= length <= MOST_LENGTH:
            raise BadWindow()
        rooms = list(range(self.room_total))
        # A round is a row of half its length and a row back: this halves the steps.
        there = [[1 if room == start else 0 for room in rooms] for start in rooms]
        for step in range(length // 2):
            there = one_more(there, self.pairs)
        back = one_more(there, self.pairs) if length % 2 == 1 else there
        return sum([there[one][other] * back[other][one] for one in rooms for other in rooms])

    def rows(self, length):
        """The rising list of rows of a length."""
        if not 1 <= length <= MOST_WINDOW:
            raise BadWindow()
        if self.many(length) > MOST_ROWS:
            raise TooMany(MOST_ROWS)
        found = [(arrow,) for arrow in range(len(self.pairs))]
        for step in range(length - 1):
            found = [row + (arrow,) for row in found for arrow in self.after(row[-1])]
        return found

    def is_row(self, row):
        """Whether these are arrows that follow one another; so for the empty row."""
        return self.wrong_place(row) == len(row)

    def has_arrow(self, arrow):
        """Whether an arrow has this number."""
        return 0 <= arrow < len(self.pairs)

    def after(self, arrow):
        """The rising tuple of the arrows that may follow one that is there."""
        return self.leaving[self.pairs[arrow][1]]

    def follows(self, arrow, ahead):
        """Whether an arrow may follow the one ahead of it, both of which are there."""
        return self.pairs[arrow][0] == self.pairs[ahead][1]

    def wrong_place(self, row):
        """The first place of what is no arrow or does not follow, else the length of the row."""
        for at, arrow in enumerate(row):
            if not self.has_arrow(arrow):
                return at
            if at > 0 and not self.follows(arrow, row[at - 1]):
                return at
        return len(row)

    def need_arrow(self, arrow):
        """Refuse what is no arrow, before a number below nought counts from behind."""
        if not self.has_arrow(arrow):
            raise BadArrow()

    def need_room(self, room):
        """Refuse what is no room, before a number below nought counts from behind."""
        if not 0 <= room < self.room_total:
            raise BadRoom()
