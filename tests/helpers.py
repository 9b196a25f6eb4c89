"""What the tests share: small webs, rows told the slow way, and a test case for refusals."""

import itertools
import unittest

FAR = 10 ** 29
# Numbers that are below nought, near or far; those beyond depend on the bound.
BELOW = (-1, -2, -FAR)
STRANGERS = (None, 0, "Web(2 rooms, 3 arrows)", (), [], {}, object())


def beyond(bound):
    """Numbers just beyond and far beyond the last one that is let."""
    return (bound + 1, bound + 2, bound + 1000, FAR)


class Case(unittest.TestCase):
    def refused(self, kind, fields, call, *things, **named):
        """The call is refused with just this class, its word and its fields."""
        with self.assertRaises(kind) as caught:
            call(*things, **named)
        error = caught.exception
        self.assertEqual(type(error), kind)
        self.assertEqual(error.word, kind.__name__)
        told = {name: getattr(error, name) for name in fields}
        self.assertEqual(told, fields)
        for name in fields:
            self.assertEqual(type(told[name]), type(fields[name]))

    def unlike_strangers(self, thing):
        for stranger in STRANGERS:
            self.assertFalse(thing == stranger)
            self.assertFalse(stranger == thing)
            self.assertTrue(thing != stranger)

    def told_as(self, told, wanted):
        """Equal, and of the same kinds all the way down (True is not 1, a tuple no list)."""
        self.assertEqual(told, wanted)
        self.assertEqual(kinds(told), kinds(wanted))


def kinds(thing):
    if isinstance(thing, (list, tuple)):
        return (type(thing), [kinds(part) for part in thing])
    if isinstance(thing, dict):
        return (dict, sorted((key, kinds(key), kinds(thing[key])) for key in thing))
    return type(thing)


def slow_rows(pairs, length):
    """All rows of a length, by trying everything."""
    return [
        row for row in itertools.product(range(len(pairs)), repeat=length)
        if all(pairs[one][1] == pairs[two][0] for one, two in zip(row, row[1:]))
    ]


def slow_rounds(pairs, length):
    return [row for row in slow_rows(pairs, length) if pairs[row[-1]][1] == pairs[row[0]][0]]


def loops(*counts):
    """Rooms and arrows where room k has counts[k] arrows, all to itself."""
    return len(counts), [(room, room) for room, count in enumerate(counts) for k in range(count)]


# (rooms, arrows) of a few small webs: loops, ways that do not come back, double arrows.
SMALL = (
    (1, [(0, 0)]),
    (1, [(0, 0), (0, 0)]),
    (2, [(0, 0), (0, 1), (1, 0)]),
    (2, [(0, 1), (1, 0)]),
    (2, [(0, 1), (1, 1)]),
    (2, [(1, 0), (0, 1), (0, 0), (1, 0)]),
    (3, [(2, 0), (0, 1), (1, 2), (1, 0), (2, 2)]),
    (3, [(0, 1), (0, 2), (1, 1), (2, 1), (0, 1)]),
)
# Rooms with loops: 600 and 601 rows, of two arrows and of six arrows.
ROWS_600_OF_2 = loops(24, 4, 2, 2)
ROWS_601_OF_2 = loops(24, 5)
ROWS_600_OF_6 = loops(*([2] * 9 + [1] * 24))
ROWS_601_OF_6 = loops(*([2] * 9 + [1] * 25))
