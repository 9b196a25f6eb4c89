"""What the tests share: webs and readers, rows told the slow way, and a test case for refusals."""

import itertools
import random
import unittest

from aheadfold.errors import BadTable
from aheadfold.folds import fold, folds_of, named, split
from aheadfold.readers import Reader
from aheadfold.store import Store
from aheadfold.walkers import Walker
from aheadfold.webs import Web

FAR = 10 ** 29
# Numbers that are below nought, near or far; those beyond depend on the bound.
BELOW = (-1, -2, -FAR)
STRANGERS = (None, 0, "Web(2 rooms, 3 arrows)", (), [], {}, object())


def beyond(bound):
    """Numbers just beyond and far beyond the last one that is let."""
    return (bound + 1, bound + 2, bound + 1000, FAR)


class Case(unittest.TestCase):
    def refused(self, kind, fields, call, *things, **named):
        """The call is refused with just this class, its word and its fields."""
        with self.assertRaises(kind) as caught:
            call(*things, **named)
        error = caught.exception
        self.assertEqual(type(error), kind)
        self.assertEqual(error.word, kind.__name__)
        told = {name: getattr(error, name) for name in fields}
        self.assertEqual(told, fields)
        for name in fields:
            self.assertEqual(type(told[name]), type(fields[name]))

    def unlike_strangers(self, thing):
        for stranger in STRANGERS:
            self.assertFalse(thing == stranger)
            self.assertFalse(stranger == thing)
            self.assertTrue(thing != stranger)

    def told_as(self, told, wanted):
        """Equal, and of the same kinds all the way down (True is not 1, a tuple no list)."""
        self.assertEqual(told, wanted)
        self.assertEqual(kinds(told), kinds(wanted))


def kinds(thing):
    if isinstance(thing, (list, tuple)):
        return (type(thing), [kinds(part) for part in thing])
    if isinstance(thing, dict):
        return (dict, sorted((key, kinds(key), kinds(thing[key])) for key in thing))
    return type(thing)


def slow_rows(pairs, length):
    """All rows of a length, by trying everything."""
    return [
        row for row in itertools.product(range(len(pairs)), repeat=length)
        if all(pairs[one][1] == pairs[two][0] for one, two in zip(row, row[1:]))
    ]


def slow_rounds(pairs, length):
    return [row for row in slow_rows(pairs, length) if pairs[row[-1]][1] == pairs[row[0]][0]]


def loops(*counts):
    """Rooms and arrows where room k has counts[k] arrows, all to itself."""
    return len(counts), [(room, room) for room, count in enumerate(counts) for k in range(count)]


# (rooms, arrows) of a few small webs: loops, ways that do not come back, double arrows.
SMALL = (
    (1, [(0, 0)]),
    (1, [(0, 0), (0, 0)]),
    (2, [(0, 0), (0, 1), (1, 0)]),
    (2, [(0, 1), (1, 0)]),
    (2, [(0, 1), (1, 1)]),
    (2, [(1, 0), (0, 1), (0, 0), (1, 0)]),
    (3, [(2, 0), (0, 1), (1, 2), (1, 0), (2, 2)]),
    (3, [(0, 1), (0, 2), (1, 1), (2, 1), (0, 1)]),
)
# Rooms with loops: 600 and 601 rows, of two arrows and of six arrows.
ROWS_600_OF_2 = loops(24, 4, 2, 2)
ROWS_601_OF_2 = loops(24, 5)
ROWS_600_OF_6 = loops(*([2] * 9 + [1] * 24))
ROWS_601_OF_6 = loops(*([2] * 9 + [1] * 25))


def reader_by(web, other, window, rule):
    """The reader whose table has rule(row) for each row."""
    return Reader(web, other, window, {row: rule(row) for row in web.rows(window)})


def wider(reader, window):
    """The same reader, told with a greater window."""
    return reader_by(reader.web(), reader.other(), window, lambda row: reader.arrow(row[:reader.window()]))


def few_walkers(web, most=3):
    """Some walkers of a web: at most so many arrows ahead, then so many in the ring."""
    rounds = [row for length in range(1, most + 1) for row in slow_rounds(web.arrows(), length)]
    found = []
    for ring in rounds:
        found.append(Walker(web, (), ring))
        for length in range(1, most + 1):
            for ahead in slow_rows(web.arrows(), length):
                if web.is_row(ahead + ring):
                    found.append(Walker(web, ahead, ring))
    return found


class Chance:
    """Webs that no one has chosen, the same ones for the same seed."""

    def __init__(self, seed):
        self.random = random.Random(seed)

    def web(self, rooms, arrows):
        """A web with so many rooms and, where that is enough for the rooms, arrows."""
        pairs = [(room, self.random.randrange(rooms)) for room in range(rooms)]
        while len(pairs) < arrows:
            pairs.append((self.random.randrange(rooms), self.random.randrange(rooms)))
        self.random.shuffle(pairs)
        return Web(rooms, pairs)

    def small(self):
        rooms = self.random.randrange(1, 5)
        return self.web(rooms, rooms + self.random.randrange(6))

    def mixed(self, many):
        """The numbers from 0 in some order."""
        numbers = list(range(many))
        self.random.shuffle(numbers)
        return numbers

    def renamed(self, web):
        return named(web, self.mixed(web.rooms()), self.mixed(len(web)))

    def part(self, web):
        """A room and a part by which it can be split, or None."""
        rooms = [room for room in range(web.rooms()) if len(web.outs(room)) > 1]
        if not rooms:
            return None
        room = self.random.choice(rooms)
        outs = web.outs(room)
        return room, self.random.sample(outs, self.random.randrange(1, len(outs)))

    def splitted(self, web):
        found = self.part(web)
        return split(web, *found) if found else web

    def folded(self, web):
        pairs = folds_of(web)
        return fold(web, *self.random.choice(pairs)) if pairs else web

    def kin(self, web, steps):
        """A web behind so many splits, folds and namings, of at most 10 rooms and 24 arrows."""
        for step in range(steps):
            deed = self.random.choice((self.splitted, self.splitted, self.folded, self.renamed))
            turned = deed(web)
            if turned.rooms() <= 10 and len(turned) <= 24:
                web = turned
        return web

    def bent(self, web):
        """The web with one arrow led elsewhere."""
        pairs = web.arrows()
        at = self.random.randrange(len(pairs))
        pairs[at] = (pairs[at][0], self.random.randrange(web.rooms()))
        return Web(web.rooms(), pairs)


# One room with two and with three arrows.
TWO = Web(1, [(0, 0)] * 2)
THREE = Web(1, [(0, 0)] * 3)


def ones_ahead(many, letters=2):
    """A reader to one room with so many arrows, whose way back looks at many + 1 arrows.

    Each room but the last tells how often the arrow 1 comes at first; the
    last one that it comes so many times at least.
    """
    arrows = [(0, room, letter) for letter in range(letters) if letter != 1 for room in range(many + 1)]
    arrows += [(room, room - 1, 1) for room in range(1, many + 1)] + [(many, many, 1)]
    web = Web(many + 1, [(begin, end) for begin, end, letter in arrows])
    return reader_by(web, Web(1, [(0, 0)] * letters), 1, lambda row: arrows[row[0]][2])


def turning(rooms):
    """A reader to one room with three arrows: each is a way of the rooms into one another.

    The ways are a round, an exchange of two, and one that forgets a room, so
    that rooms come together in each way there is.
    """
    ways = ([(room + 1) % rooms for room in range(rooms)], [1, 0] + list(range(2, rooms)),
            [0, 0] + list(range(2, rooms)))
    web = Web(rooms, [(room, way[room]) for way in ways for room in range(rooms)])
    return reader_by(web, THREE, 1, lambda row: row[0] // rooms)


def rule_reader(number):
    """The reader of two arrows that looks at three, with the bits of a number as its table."""
    return reader_by(TWO, TWO, 3, lambda row: (number >> (4 * row[0] + 2 * row[1] + row[2])) & 1)


def exchanging(web, one, other, when):
    """The reader that exchanges two arrows with the same rooms where the next one is one of some."""
    swap = {one: other, other: one}
    return reader_by(web, web, 2, lambda row: swap.get(row[0], row[0]) if row[1] in when else row[0])


def all_readers(web, other, window):
    """All readers from a small web to another one, by trying all tables."""
    rows = web.rows(window)
    found = []
    for arrows in itertools.product(range(len(other)), repeat=len(rows)):
        try:
            found.append(Reader(web, other, window, dict(zip(rows, arrows))))
        except BadTable:
            pass
    return found


def slow_fold(web, one, other):
    """The arrows of the folded web, and the image of each arrow, word for word."""
    pairs = web.arrows()
    kept = [arrow for arrow in range(len(pairs)) if pairs[arrow][1] != other]

    def room(number):
        return one if number == other else number - 1 if number > other else number

    images = []
    for arrow, (begin, end) in enumerate(pairs):
        elder = arrow
        if end == other:
            place = pairs[:arrow].count((begin, other))
            elder = [number for number in range(len(pairs)) if pairs[number] == (begin, one)][place]
        images.append(kept.index(elder))
    return [(room(pairs[arrow][0]), room(pairs[arrow][1])) for arrow in kept], images


def slow_named(web, rooms, arrows):
    """The named web, or None where the lists are no naming."""
    if sorted(rooms) != list(range(web.rooms())) or sorted(arrows) != list(range(len(web))):
        return None
    pairs = dict(zip(arrows, [(rooms[begin], rooms[end]) for begin, end in web.arrows()]))
    return Web(web.rooms(), [pairs[arrow] for arrow in range(len(web))])


def slow_down(web, folds):
    """The web behind a row of folds and the image of each arrow, or None where one does not fold."""
    images = list(range(len(web)))
    for one, other in folds:
        if not 0 <= one < other < web.rooms():
            return None
        if any(web.leading(room, one) != web.leading(room, other) for room in range(web.rooms())):
            return None
        arrows, numbers = slow_fold(web, one, other)
        images = [numbers[image] for image in images]
        web = Web(web.rooms() - 1, arrows)
    return web, images


def exchanged(row, one, other):
    """A list or tuple with two things exchanged."""
    told = list(row)
    told[one], told[other] = told[other], told[one]
    return type(row)(told)


def with_thing(row, at, thing):
    """A tuple or list with another thing at a place."""
    told = list(row)
    told[at] = thing
    return type(row)(told)


SAMPLE = (
    ("web", "a", 2, [(0, 0), (0, 1), (1, 0)]),
    ("web", "b", 1, [(0, 0), (0, 0)]),
    ("web", "c", 1, [(0, 0), (0, 0)]),
    ("reader", "ab", "a", "b", "look 1\n1 -> 1\n* -> 0"),
    ("reader", "ba", "b", "a", "look 3\n1 0 * -> 2\n* 1 0 -> 1\n* * * -> 0"),
    ("reader", "aa", "a", "a", "look 2\n* b1 -> 2\n* e1 -> 1\n* * -> 0"),
    ("reader", "bc", "b", "c", "look 1\n0 -> 1\n* -> 0"),
    ("walker", "wa", "a", [0, 0], [1, 2, 1, 2, 0]),
    ("walker", "wb", "b", [], [0, 1, 1]),
    ("walker", "wc", "c", [1], [0]),
)


def sample(*more):
    """A store of three webs, two of them equal, with readers and walkers, and what more deeds make of it."""
    store = Store()
    for deed in SAMPLE + more:
        store.do(deed)
    return store


def things(store):
    """All that a store tells of its things."""
    told = {}
    for name, kind in store.names():
        if kind == "web":
            told[name] = (kind, store.web(name).rooms(), store.web(name).arrows())
        elif kind == "reader":
            reader = store.reader(name)
            webs = [(web.rooms(), web.arrows()) for web in (reader.web(), reader.other())]
            told[name] = (kind, store.ends(name), reader.window(), reader.table(), webs)
        else:
            walker = store.walker(name)
            home = (walker.web().rooms(), walker.web().arrows())
            told[name] = (kind, store.goes_in(name), walker.ahead(), walker.ring(), home)
    return told


def state(store):
    """All that a store tells, with its steps."""
    return things(store), store.steps(), repr(store), len(store)


def tupled(thing):
    """Tuples for lists, all the way down."""
    return tuple(tupled(part) for part in thing) if isinstance(thing, (list, tuple)) else thing
