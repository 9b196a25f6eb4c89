"""Readers, their least forms and what they make joined: [2], [10], [11] and [12]."""

import itertools
import unittest

from aheadfold.errors import Apart, BadTable, BadWalk, BadWindow, TooMany
from aheadfold.readers import Reader, joined, same
from aheadfold.walkers import Walker
from aheadfold.webs import Web
from helpers import (BELOW, FAR, ROWS_600_OF_2, ROWS_600_OF_6, ROWS_601_OF_2, ROWS_601_OF_6, SMALL,
                     Case, beyond, slow_rounds, slow_rows)

GOLDEN = Web(2, [(0, 0), (0, 1), (1, 0)])
TWO = Web(1, [(0, 0), (0, 0)])
THREE = Web(1, [(0, 0), (0, 0), (0, 0)])
RING = Web(2, [(0, 1), (1, 0)])
LONG = 40


def looker(web, window):
    """The reader that makes of each walk the walk from so many beats less one on."""
    return Reader(web, web, window, {row: row[-1] for row in web.rows(window)})


def counter(window, many=2, web=TWO):
    """The reader whose arrow is the sum of all it looks at, within so many arrows."""
    return Reader(web, web, window, {row: sum(row) % many for row in web.rows(window)})


def widened(reader, window):
    """The same reader with a greater window."""
    table = {row: reader.arrow(row[:reader.window()]) for row in reader.web().rows(window)}
    return Reader(reader.web(), reader.other(), window, table)


def slow_following(pairs, others, window, table):
    """The first row of one more arrow that cannot be, or None."""
    for row in slow_rows(pairs, window + 1):
        if others[table[row[1:]]][0] != others[table[row[:-1]]][1]:
            return row
    return None


def all_readers(web, other, window):
    """All readers of a window between two small webs, each with its table."""
    rows = web.rows(window)
    for arrows in itertools.product(range(len(other)), repeat=len(rows)):
        table = dict(zip(rows, arrows))
        if slow_following(web.arrows(), other.arrows(), window, table) is None:
            yield Reader(web, other, window, table)


def some_walkers(web):
    """Walkers with up to two arrows ahead and up to three in the ring."""
    pairs = web.arrows()
    for length in (1, 2, 3):
        for ring in slow_rounds(pairs, length):
            yield Walker(web, [], ring)
            for many in (1, 2):
                for ahead in slow_rows(pairs, many):
                    if pairs[ahead[-1]][1] == pairs[ring[0]][0]:
                        yield Walker(web, ahead, ring)


def slow_made(reader, walker, many):
    """The first arrows that the reader makes, by the words of [10]."""
    table = reader.table()
    window = reader.window()
    return [table[tuple(walker.arrow(beat + k) for k in range(window))] for beat in range(many)]


XOR = counter(2)
LEFT = Reader(GOLDEN, TWO, 1, {(0,): 0, (1,): 1, (2,): 0})
RING_TO_GOLDEN = Reader(RING, GOLDEN, 1, {(0,): 1, (1,): 2})


class ReadersTold(Case):
    def test_what_was_handed_in(self):
        table = {(0,): 0, (1,): 1, (2,): 0}
        self.assertEqual((LEFT.web(), LEFT.other()), (GOLDEN, TWO))
        self.told_as((LEFT.window(), LEFT.table(), len(LEFT)), (1, table, 3))
        table = {(0, 0): 0, (0, 1): 1, (1, 0): 1, (1, 1): 0}
        self.told_as((XOR.window(), XOR.table(), len(XOR)), (2, table, 4))

    def test_the_window_is_kept_as_handed_in(self):
        wide = widened(LEFT, 3)
        self.told_as((wide.window(), len(wide)), (3, len(GOLDEN.rows(3))))
        self.told_as(wide.table(), {row: LEFT.arrow(row[:1]) for row in GOLDEN.rows(3)})

    def test_repr(self):
        self.assertEqual(repr(LEFT), "Reader(1 ahead, 3 rows)")
        self.assertEqual(repr(counter(3)), "Reader(3 ahead, 8 rows)")
        self.assertEqual(repr(looker(GOLDEN, 2)), "Reader(2 ahead, 5 rows)")
        self.assertEqual(repr(widened(LEFT, 2)), "Reader(2 ahead, 5 rows)")
        self.assertEqual(repr(Reader(Web(1, [(0, 0)]), TWO, 1, {(0,): 1})), "Reader(1 ahead, 1 rows)")

    def test_arrow(self):
        for reader in (XOR, LEFT, looker(GOLDEN, 3)):
            table = reader.table()
            for row in table:
                self.told_as(reader.arrow(row), table[row])
                self.told_as(reader.arrow(list(row)), table[row])

    def test_reading(self):
        for reader in (XOR, LEFT, looker(GOLDEN, 3)):
            table = reader.table()
            window = reader.window()
            for length in range(window, 7):
                for row in slow_rows(reader.web().arrows(), length):
                    wanted = [table[row[at:at + window]] for at in range(length - window + 1)]
                    self.told_as(reader.reading(row), wanted)
                    self.told_as(reader.reading(list(row)), wanted)
        self.told_as(XOR.reading([0, 1] * 300), [1] * 599)

    def test_made(self):
        for reader in (XOR, LEFT, looker(GOLDEN, 3), looker(RING, 6), RING_TO_GOLDEN):
            for walker in some_walkers(reader.web()):
                before = (walker.ahead(), walker.ring())
                made = reader.made(walker)
                self.assertEqual(made.web(), reader.other())
                self.assertEqual(made.first(LONG), slow_made(reader, walker, LONG))
                self.assertEqual((walker.ahead(), walker.ring()), before)

    def test_made_is_told_shortest(self):
        made = XOR.made(Walker(TWO, [0, 1], [0, 1, 1, 0]))
        self.told_as((made.ahead(), made.ring()), ([1, 1], [1, 0]))
        made = XOR.made(Walker(TWO, [], [0, 1]))
        self.told_as((made.ahead(), made.ring()), ([], [1]))
        made = XOR.made(Walker(TWO, [0, 0, 0], [1, 1]))
        self.told_as((made.ahead(), made.ring()), ([0, 0, 1], [0]))

    def test_made_of_a_long_walker(self):
        walker = Walker(TWO, [1] * 600, [0] * 599 + [1])
        made = XOR.made(walker)
        self.told_as(made.ahead(), [0] * 599)
        self.told_as(made.ring(), [1] + [0] * 598 + [1])

    def test_all_by_name(self):
        reader = Reader(table={(0,): 1, (1,): 2}, window=1, other=GOLDEN, web=RING)
        self.assertEqual(reader, RING_TO_GOLDEN)
        self.assertEqual((reader.arrow(row=(1,)), reader.reading(row=[1, 0])), (2, [2, 1]))
        self.assertEqual(repr(reader.made(walker=Walker(RING, [], [1, 0]))), "Walker(| 2 1)")
        self.assertEqual(same(web=TWO), same(TWO))
        self.assertEqual(joined(other=LEFT, one=reader), joined(reader, LEFT))

    def test_handed_dict_changed_behind_the_call(self):
        table = {(1,): 1, (2,): 0, (0,): 0}
        reader = Reader(GOLDEN, TWO, 1, table)
        self.assertEqual(list(table.items()), [((1,), 1), ((2,), 0), ((0,), 0)])
        table[(0,)] = 1
        del table[(1,)]
        self.told_as(reader.table(), {(0,): 0, (1,): 1, (2,): 0})
        self.assertEqual((reader, reader.least()), (LEFT, LEFT))

    def test_told_dicts_and_lists_changed(self):
        reader = Reader(TWO, TWO, 2, XOR.table())
        told = reader.table()
        told[(0, 0)] = 1
        told[(5,)] = 5
        reader.table().clear()
        reader.least().table().clear()
        reader.reading([0, 1, 0]).clear()
        self.told_as(reader.table(), {(0, 0): 0, (0, 1): 1, (1, 0): 1, (1, 1): 0})
        self.told_as((reader.arrow((0, 0)), reader.reading([0, 1, 0])), (0, [1, 1]))
        self.assertEqual(reader, XOR)


class ReadersRefused(Case):
    def bad(self, row, web, other, window, table):
        self.refused(BadTable, {"row": row}, Reader, web, other, window, table)

    def test_bad_window(self):
        for window in (0, *BELOW, *beyond(6)):
            self.refused(BadWindow, {}, Reader, TWO, TWO, window, {})
            self.refused(BadWindow, {}, Reader, Web(1, [(0, 0)] * 400), TWO, window, {(0,): 9})

    def test_windows_from_1_to_6(self):
        for window in range(1, 7):
            self.assertEqual(counter(window).window(), window)

    def test_too_many_rows(self):
        for window, just, over in ((2, ROWS_600_OF_2, ROWS_601_OF_2), (6, ROWS_600_OF_6, ROWS_601_OF_6)):
            web = Web(*just)
            self.assertEqual(len(Reader(web, web, window, {row: row[0] for row in web.rows(window)})), 600)
            web = Web(*over)
            self.refused(TooMany, {"most": 600}, Reader, web, web, window, {})
            self.refused(TooMany, {"most": 600}, Reader, web, web, window, {(0, FAR): FAR})

    def test_a_row_that_lacks_or_has_no_arrow(self):
        table = XOR.table()
        for row in table:
            self.bad(row, TWO, TWO, 2, {key: table[key] for key in table if key != row})
            for arrow in (*BELOW, *beyond(1)):
                self.bad(row, TWO, TWO, 2, {**table, row: arrow})
        self.bad((0, 0), TWO, TWO, 2, {})
        self.bad((0, 1), TWO, TWO, 2, {(0, 0): 0, (1, 0): 7, (1, 1): 0})
        self.bad((0, 1), TWO, TWO, 2, {(1, 1): 9, (0, 1): 9, (0, 0): 0})
        self.bad((0,), GOLDEN, TWO, 1, {(0,): 2, (1,): 2, (2,): 2})
        self.bad((1,), GOLDEN, TWO, 1, {(0,): 0, (2,): 2})

    def test_a_key_that_is_no_row(self):
        table = {row: 0 for row in GOLDEN.rows(2)}
        for key in ((), (0,), (0, 2), (1, 1), (0, 0, 0), (3, 0), (-1, 0), (0, FAR), (2, -FAR)):
            self.bad(key, GOLDEN, TWO, 2, {**table, key: 0})
            self.bad(key, GOLDEN, TWO, 2, {key: 9, **table})
        self.bad((0,), GOLDEN, TWO, 2, {**table, (1, 1): 0, (0, 2): 0, (0,): 0})
        self.bad((-1, 5), GOLDEN, TWO, 2, {**table, (1, 1): 0, (-1, 5): 0, (0,): 0})
        self.bad((0, 0, 0), GOLDEN, TWO, 2, {(2, 2): 0, (0, 2): 0, (0, 0, 0): 0, **table})

    def test_a_row_of_one_more_arrow(self):
        self.bad((0, 0), TWO, GOLDEN, 1, {(0,): 1, (1,): 2})
        self.bad((0, 1), TWO, GOLDEN, 1, {(0,): 0, (1,): 2})
        self.bad((1, 0), TWO, GOLDEN, 1, {(0,): 0, (1,): 1})
        self.bad((1, 2), GOLDEN, GOLDEN, 1, {(0,): 0, (1,): 1, (2,): 0})
        self.bad((0, 1), GOLDEN, GOLDEN, 1, {(0,): 0, (1,): 2, (2,): 0})

    def test_each_table_of_small_webs(self):
        for web, other, window in ((TWO, GOLDEN, 2), (GOLDEN, RING, 1), (GOLDEN, GOLDEN, 2), (RING, GOLDEN, 2)):
            rows = web.rows(window)
            for arrows in itertools.product(range(len(other)), repeat=len(rows)):
                table = dict(zip(rows, arrows))
                wrong = slow_following(web.arrows(), other.arrows(), window, table)
                if wrong is None:
                    self.told_as(Reader(web, other, window, table).table(), table)
                else:
                    self.bad(wrong, web, other, window, table)

    def test_the_order_of_the_refusals(self):
        # All three are due, then the last two, then the last one.
        lacking = {(0,): 1, (-1,): 0}
        self.bad((1,), TWO, GOLDEN, 1, lacking)
        self.bad((-1,), TWO, GOLDEN, 1, {**lacking, (1,): 2})
        self.bad((0, 0), TWO, GOLDEN, 1, {(0,): 1, (1,): 2})
        wide = Web(*ROWS_601_OF_2)
        self.refused(TooMany, {"most": 600}, Reader, wide, TWO, 2, {(): 0})
        self.refused(BadWindow, {}, Reader, wide, TWO, 7, {(): 0})

    def test_rows_that_cannot_be_read(self):
        reader = looker(GOLDEN, 2)
        for row in ((), (0,), (0, 2), (1, 1), (0, 3), (-1, 0), (0, FAR), (-FAR, 0)):
            for handed in (row, list(row)):
                self.refused(BadWalk, {"at": 0}, reader.arrow, handed)
                self.refused(BadWalk, {"at": 0}, reader.reading, handed)
        for row in ((0, 0, 2), (0, 1, 1), (0, 0, 3), (0, 0, -1), (0, 0, 0, 1, 2, 2)):
            for handed in (row, list(row)):
                self.refused(BadWalk, {"at": 0}, reader.reading, handed)
        for row in ((0, 0, 0), (0, 1, 2), (0,) * 600):
            self.refused(BadWalk, {"at": 0}, reader.arrow, row)
        self.assertEqual(reader, looker(GOLDEN, 2))

    def test_the_window_counts_for_reading_and_not_the_least_one(self):
        wide = widened(LEFT, 3)
        for row in ((0,), (0, 1), (1, 2)):
            self.refused(BadWalk, {"at": 0}, wide.arrow, row)
            self.refused(BadWalk, {"at": 0}, wide.reading, row)
        self.told_as((wide.arrow((0, 1, 2)), wide.reading((0, 1, 2, 0))), (0, [0, 1]))

    def test_a_walker_in_another_web(self):
        self.refused(Apart, {}, LEFT.made, Walker(TWO, [], [0]))
        self.refused(Apart, {}, XOR.made, Walker(THREE, [], [0]))
        turned = Web(2, [(0, 1), (0, 0), (1, 0)])
        self.refused(Apart, {}, LEFT.made, Walker(turned, [], [1]))
        again = Web(2, [[0, 0], [0, 1], [1, 0]])
        self.assertEqual(LEFT.made(Walker(again, [], [1, 2])), Walker(TWO, [], [1, 0]))


class LeastForms(Case):
    def slow_least(self, reader):
        """The least window of which the first arrows tell all, by trying each pair of rows."""
        table = reader.table()
        for window in range(1, reader.window() + 1):
            if all(table[one] == table[two] for one in table for two in table if one[:window] == two[:window]):
                return window, {row[:window]: table[row] for row in table}

    def check_least(self, reader):
        least = reader.least()
        self.told_as((least.window(), least.table()), self.slow_least(reader))
        self.assertEqual((least.web(), least.other()), (reader.web(), reader.other()))
        again = least.least()
        self.told_as((again.window(), again.table()), (least.window(), least.table()))
        self.assertTrue(least == reader)

    def test_least_of_all_small_readers(self):
        for web, other, window in ((TWO, TWO, 2), (TWO, TWO, 3), (GOLDEN, GOLDEN, 2), (GOLDEN, TWO, 2),
                                   (RING, GOLDEN, 3), (Web(2, [(0, 1), (1, 1)]), GOLDEN, 2)):
            for reader in all_readers(web, other, window):
                self.check_least(reader)

    def test_least_of_widened_readers(self):
        for reader in (XOR, LEFT, same(THREE), looker(GOLDEN, 3), counter(4)):
            for window in range(reader.window(), 6):
                wide = widened(reader, window)
                least = wide.least()
                self.told_as((least.window(), least.table()), (reader.window(), reader.table()))
                self.assertEqual((wide.window(), len(wide)), (window, len(reader.web().rows(window))))
        self.assertEqual(widened(XOR, 6).least().window(), 2)
        self.assertEqual(counter(6).least().window(), 6)

    def test_where_the_way_on_is_the_only_one(self):
        self.told_as(looker(RING, 2).least().table(), {(0,): 1, (1,): 0})
        self.told_as(looker(RING, 5).least().table(), {(0,): 0, (1,): 1})

    def test_a_window_in_the_middle_is_skipped(self):
        reader = Reader(TWO, TWO, 4, {row: (row[0] + row[2]) % 2 for row in TWO.rows(4)})
        least = reader.least()
        self.told_as((least.window(), len(least)), (3, 8))

    def test_least_makes_the_same(self):
        for reader in (widened(XOR, 5), widened(LEFT, 4), looker(RING, 6)):
            for walker in some_walkers(reader.web()):
                self.assertEqual(reader.made(walker), reader.least().made(walker))


class ReadersEqual(Case):
    def test_equal_just_where_they_make_the_same(self):
        readers = [reader for window in (1, 2) for reader in all_readers(GOLDEN, GOLDEN, window)]
        readers += [widened(reader, 3) for reader in readers]
        walkers = list(some_walkers(GOLDEN))
        made = [[repr(reader.made(walker)) for walker in walkers] for reader in readers]
        for at, one in enumerate(readers):
            for place, other in enumerate(readers):
                self.assertEqual(one == other, made[at] == made[place])
                self.assertEqual(one != other, made[at] != made[place])

    def test_whatever_their_windows(self):
        for window in range(2, 7):
            self.assertTrue(widened(XOR, window) == XOR)
            self.assertTrue(XOR == widened(XOR, window))
            self.assertFalse(counter(window) != counter(window))
            self.assertFalse(counter(window) == counter(window - 1))

    def test_unequal_where_a_web_is(self):
        one = Web(1, [(0, 0)])
        self.assertFalse(Reader(one, TWO, 1, {(0,): 0}) == Reader(one, THREE, 1, {(0,): 0}))
        turned = Web(2, [(1, 0), (0, 1)])
        first = Reader(RING, one, 1, {(0,): 0, (1,): 0})
        second = Reader(turned, one, 1, {(0,): 0, (1,): 0})
        self.assertFalse(first == second)
        self.assertTrue(first != second)
        again = Reader(Web(2, ([0, 1], [1, 0])), Web(1, ([0, 0],)), 1, {(1,): 0, (0,): 0})
        self.assertTrue(first == again)

    def test_equal_to_nothing_of_another_kind(self):
        self.unlike_strangers(XOR)
        for stranger in (TWO, Walker(TWO, [], [0]), XOR.table(), repr(XOR)):
            self.assertFalse(XOR == stranger)
            self.assertFalse(stranger == XOR)


class Joined(Case):
    def test_same(self):
        for rooms, arrows in SMALL:
            web = Web(rooms, arrows)
            reader = same(web)
            self.assertEqual((reader.web(), reader.other()), (web, web))
            self.told_as((reader.window(), reader.table()), (1, {(k,): k for k in range(len(arrows))}))
            for walker in some_walkers(web):
                self.assertEqual(reader.made(walker), walker)
        self.assertEqual(len(same(Web(1, [(0, 0)] * 400))), 400)

    def check_joined(self, one, other):
        both = joined(one, other)
        self.assertEqual((both.web(), both.other()), (one.web(), other.other()))
        self.assertEqual(both.window(), both.least().window())
        self.told_as(both.table(), both.least().table())
        for walker in some_walkers(one.web()):
            self.assertEqual(both.made(walker), other.made(one.made(walker)))

    def test_joined_makes_what_the_second_makes_of_what_the_first_makes(self):
        for one in all_readers(TWO, TWO, 2):
            for other in (XOR, looker(TWO, 2), counter(3), widened(XOR, 4), same(TWO)):
                self.check_joined(one, other)
                self.check_joined(other, one)

    def test_joined_between_unlike_webs(self):
        into = Reader(TWO, GOLDEN, 1, {(0,): 0, (1,): 0})
        for one, other in ((RING_TO_GOLDEN, LEFT), (LEFT, XOR), (LEFT, into), (into, LEFT),
                           (looker(GOLDEN, 3), LEFT), (RING_TO_GOLDEN, looker(GOLDEN, 4))):
            self.check_joined(one, other)

    def test_the_first_one_goes_first(self):
        swap = Reader(TWO, TWO, 1, {(0,): 1, (1,): 0})
        mark = Reader(TWO, TWO, 2, {(0, 0): 0, (0, 1): 0, (1, 0): 0, (1, 1): 1})
        self.told_as(joined(swap, mark).table(), {(0, 0): 1, (0, 1): 0, (1, 0): 0, (1, 1): 0})
        self.told_as(joined(mark, swap).table(), {(0, 0): 1, (0, 1): 1, (1, 0): 1, (1, 1): 0})

    def test_joined_in_least_form(self):
        still = Reader(TWO, TWO, 1, {(0,): 0, (1,): 0})
        self.told_as(joined(XOR, still).table(), {(0,): 0, (1,): 0})
        self.told_as(joined(still, XOR).table(), {(0,): 0, (1,): 0})
        self.told_as(joined(XOR, XOR).table(), {row: (row[0] + row[2]) % 2 for row in TWO.rows(3)})
        self.told_as(joined(widened(same(TWO), 3), widened(same(TWO), 4)).table(), {(0,): 0, (1,): 1})

    def test_the_windows_of_least_forms_count(self):
        self.assertEqual(joined(widened(same(TWO), 6), counter(6)), counter(6))
        self.assertEqual(joined(counter(6), widened(same(TWO), 6)), counter(6))
        self.assertEqual(joined(widened(XOR, 6), widened(XOR, 6)), joined(XOR, XOR))

    def test_a_window_beyond_6(self):
        for one, other in itertools.product(range(1, 7), repeat=2):
            if one + other - 1 > 6:
                self.refused(TooMany, {"most": 6}, joined, looker(TWO, one), looker(TWO, other))
            else:
                self.assertEqual(joined(looker(TWO, one), looker(TWO, other)), looker(TWO, one + other - 1))

    def test_6_goes_ahead_of_600(self):
        # With three arrows in one room there are 243 rows of five arrows, and 729 of six.
        for one, other in itertools.product(range(1, 6), repeat=2):
            near, far = counter(one, 3, THREE), counter(other, 3, THREE)
            if one + other - 1 > 6:
                self.refused(TooMany, {"most": 6}, joined, near, far)
            elif one + other - 1 == 6:
                self.refused(TooMany, {"most": 600}, joined, near, far)
            else:
                self.check_joined(near, far)

    def test_600_rows_and_601(self):
        web = Web(*ROWS_600_OF_6)
        both = joined(looker(web, 3), looker(web, 4))
        self.told_as((both.window(), len(both)), (6, 600))
        self.told_as(both.table(), {row: row[-1] for row in web.rows(6)})
        web = Web(*ROWS_601_OF_6)
        self.refused(TooMany, {"most": 600}, joined, looker(web, 3), looker(web, 4))

    def test_apart(self):
        self.refused(Apart, {}, joined, LEFT, LEFT)
        self.refused(Apart, {}, joined, XOR, LEFT)
        self.refused(Apart, {}, joined, XOR, same(THREE))
        again = same(Web(1, ([0, 0], [0, 0])))
        self.assertEqual(joined(XOR, again), XOR)

    def test_apart_ahead_of_too_many(self):
        self.refused(Apart, {}, joined, looker(TWO, 6), looker(GOLDEN, 6))
        self.refused(Apart, {}, joined, looker(THREE, 3), looker(TWO, 4))

    def test_joining_changes_nothing(self):
        one, other = widened(XOR, 3), counter(3)
        joined(one, other)
        self.refused(TooMany, {"most": 6}, joined, counter(6), other)
        self.told_as((one.window(), one.table()), (3, widened(XOR, 3).table()))
        self.told_as((other.window(), other.table()), (3, counter(3).table()))


if __name__ == "__main__":
    unittest.main()
