"""Webs, their rows and their rounds: [2], [3] and [4]."""

import unittest

from aheadfold import webs
from aheadfold.errors import BadArrow, BadRoom, BadWeb, BadWindow, TooMany
from aheadfold.webs import Web
from helpers import (BELOW, FAR, ROWS_600_OF_2, ROWS_600_OF_6, ROWS_601_OF_2, ROWS_601_OF_6, SMALL,
                     Case, beyond, loops, slow_rounds, slow_rows)

GOLDEN = (2, [(0, 0), (0, 1), (1, 0)])


class WebsTold(Case):
    def test_bounds(self):
        bounds = (webs.MOST_ROOMS, webs.MOST_ARROWS, webs.MOST_ROWS, webs.MOST_WINDOW)
        self.told_as(bounds, (100, 400, 600, 6))

    def test_rooms_and_arrows(self):
        for rooms, arrows in SMALL:
            web = Web(rooms, arrows)
            self.told_as(web.rooms(), rooms)
            self.told_as(web.arrows(), arrows)
            self.told_as(len(web), len(arrows))

    def test_begin_and_end(self):
        for rooms, arrows in SMALL:
            web = Web(rooms, arrows)
            for arrow, (begin, end) in enumerate(arrows):
                self.told_as((web.begin(arrow), web.end(arrow)), (begin, end))

    def test_outs_ins_and_leading(self):
        for rooms, arrows in SMALL:
            web = Web(rooms, arrows)
            for one in range(rooms):
                self.told_as(web.outs(one), [k for k, pair in enumerate(arrows) if pair[0] == one])
                self.told_as(web.ins(one), [k for k, pair in enumerate(arrows) if pair[1] == one])
                for other in range(rooms):
                    self.told_as(web.leading(one, other), arrows.count((one, other)))

    def test_a_room_to_which_nothing_leads(self):
        web = Web(2, [(0, 1), (1, 1)])
        self.told_as(web.ins(0), [])
        self.told_as(web.leading(1, 0), 0)

    def test_repr(self):
        self.assertEqual(repr(Web(3, [(0, 1), (1, 2), (2, 0), (0, 0), (1, 1)])), "Web(3 rooms, 5 arrows)")
        self.assertEqual(repr(Web(1, [(0, 0)])), "Web(1 rooms, 1 arrows)")
        self.assertEqual(repr(Web(*loops(*[4] * 100))), "Web(100 rooms, 400 arrows)")

    def test_all_by_name(self):
        web = Web(arrows=[(0, 0), (0, 1), (1, 0)], rooms=2)
        self.assertEqual(web, Web(*GOLDEN))
        self.assertEqual((web.begin(arrow=2), web.end(arrow=1)), (1, 1))
        self.assertEqual((web.outs(room=0), web.ins(room=1)), ([0, 1], [1]))
        self.assertEqual(web.leading(other=1, one=0), 1)
        self.assertEqual(web.leading(other=1, one=1), 0)
        self.assertEqual((web.many(length=1), web.rounds(length=1)), (3, 1))
        self.assertEqual(web.rows(length=1), [(0,), (1,), (2,)])
        self.assertTrue(web.is_row(row=(1, 2)))


class WebsEqual(Case):
    def test_lists_and_tuples_are_alike(self):
        rooms, arrows = GOLDEN
        for handed in (tuple(arrows), [list(pair) for pair in arrows], ([0, 0], (0, 1), [1, 0])):
            web = Web(rooms, handed)
            self.assertTrue(web == Web(rooms, arrows))
            self.assertFalse(web != Web(rooms, arrows))
            self.told_as(web.arrows(), arrows)

    def test_equal_just_where_rooms_and_arrows_in_order_are(self):
        many = [Web(rooms, arrows) for rooms, arrows in SMALL]
        many.append(Web(2, [(0, 1), (0, 0), (1, 0)]))
        many.append(Web(2, [(0, 0), (0, 1), (1, 0), (1, 0)]))
        many.append(Web(2, [(0, 0), (0, 1), (1, 1)]))
        many.append(Web(2, [(0, 1), (0, 0), (1, 1)]))
        for at, one in enumerate(many):
            for place, other in enumerate(many):
                self.assertEqual(one == other, at == place)
                self.assertEqual(one != other, at != place)

    def test_equal_to_nothing_of_another_kind(self):
        self.unlike_strangers(Web(*GOLDEN))
        self.assertFalse(Web(*GOLDEN) == GOLDEN)
        self.assertFalse(Web(*GOLDEN) == GOLDEN[1])

    def test_handed_lists_changed_behind_the_call(self):
        handed = [[0, 0], [0, 1], [1, 0]]
        web = Web(2, handed)
        self.assertEqual(handed, [[0, 0], [0, 1], [1, 0]])
        handed[1][1] = 0
        handed.append([1, 1])
        self.told_as(web.arrows(), GOLDEN[1])
        self.told_as((web.end(1), web.outs(1), web.rows(2)), (1, [2], slow_rows(GOLDEN[1], 2)))
        row = [1, 2]
        self.assertTrue(web.is_row(row))
        self.assertEqual(row, [1, 2])

    def test_told_lists_changed(self):
        web = Web(*GOLDEN)
        for told in (web.arrows(), web.outs(0), web.ins(0), web.rows(1), web.rows(2)):
            told.clear()
        told = web.arrows()
        told[0] = (1, 1)
        self.told_as(web.arrows(), GOLDEN[1])
        self.told_as((web.outs(0), web.ins(0)), ([0, 1], [0, 2]))
        self.told_as(web.rows(2), slow_rows(GOLDEN[1], 2))
        self.assertEqual(web, Web(*GOLDEN))


class WebsRefused(Case):
    def bad(self, at, rooms, arrows):
        self.refused(BadWeb, {"at": at}, Web, rooms, arrows)

    def test_rooms(self):
        for rooms in (0, 101, 102, FAR, *BELOW):
            self.bad(-1, rooms, [(0, 0)])
            self.bad(-1, rooms, [])
            self.bad(-1, rooms, [(0, FAR), ()])
        for rooms in (1, 2, 99, 100):
            ring = [(room, (room + 1) % rooms) for room in range(rooms)]
            self.assertEqual(Web(rooms, ring).rooms(), rooms)

    def test_first_thing_that_is_no_pair_of_rooms(self):
        wrong = [(), (0,), (0, 0, 0), (0, 1, 0, 1), (0, 2), (2, 0), (2, 2)]
        wrong += [(0, -1), (-1, 0), (-2, -2), (0, FAR), (FAR, 0), (0, -FAR), (-FAR, 0)]
        for thing in wrong:
            for handed in (thing, list(thing)):
                self.bad(0, 2, [handed])
                self.bad(0, 2, (handed, (0, 1), (1, 0)))
                self.bad(1, 2, [(0, 1), handed, (1, 0)])
                self.bad(2, 2, [(0, 1), (1, 0), handed])
                self.bad(1, 2, [(0, 1), handed, (1, 0), (5, 5), ()])

    def test_a_thing_is_refused_ahead_of_a_room_without_an_arrow(self):
        self.bad(1, 3, [(0, 1), (0, 3)])

    def test_the_401st_arrow(self):
        self.assertEqual(len(Web(1, [(0, 0)] * 400)), 400)
        self.assertEqual(len(Web(100, loops(*[4] * 100)[1])), 400)
        self.bad(400, 1, [(0, 0)] * 401)
        self.bad(400, 1, [(0, 0)] * 402)
        self.bad(400, 1, ((0, 0),) * 600)
        self.bad(400, 1, [(0, 0)] * 400 + [(0, 1)])
        self.bad(399, 1, [(0, 0)] * 399 + [(0, 1), (0, 0)])
        self.bad(400, 2, [(0, 0)] * 401)

    def test_a_room_without_an_arrow_out(self):
        self.bad(0, 1, [])
        self.bad(0, 1, ())
        self.bad(1, 2, [(0, 1)])
        self.bad(2, 2, [(1, 0), (1, 1)])
        self.bad(3, 3, [(0, 1), (2, 1), (0, 0)])
        self.bad(400, 2, [(0, 1)] * 400)

    def test_bad_arrow(self):
        for rooms, arrows in SMALL:
            web = Web(rooms, arrows)
            for arrow in (*BELOW, -len(arrows), *beyond(len(arrows) - 1)):
                self.refused(BadArrow, {}, web.begin, arrow)
                self.refused(BadArrow, {}, web.end, arrow)

    def test_bad_room(self):
        for rooms, arrows in SMALL:
            web = Web(rooms, arrows)
            for room in (*BELOW, -rooms, *beyond(rooms - 1)):
                self.refused(BadRoom, {}, web.outs, room)
                self.refused(BadRoom, {}, web.ins, room)
                self.refused(BadRoom, {}, web.leading, room, 0)
                self.refused(BadRoom, {}, web.leading, 0, room)
                self.refused(BadRoom, {}, web.leading, room, room)

    def test_what_is_refused_changes_nothing(self):
        web = Web(*GOLDEN)
        self.refused(BadArrow, {}, web.begin, 3)
        self.refused(BadRoom, {}, web.outs, 2)
        self.refused(BadWindow, {}, web.rows, 7)
        self.assertEqual(web, Web(*GOLDEN))
        self.assertEqual(web.rows(2), slow_rows(GOLDEN[1], 2))


class RowsAndRounds(Case):
    def test_rows_rising(self):
        for rooms, arrows in SMALL:
            web = Web(rooms, arrows)
            for length in range(1, 7):
                self.told_as(web.rows(length), slow_rows(arrows, length))

    def test_rows_refused(self):
        for web in (Web(*GOLDEN), Web(1, [(0, 0)] * 400)):
            for length in (0, *BELOW, *beyond(6)):
                self.refused(BadWindow, {}, web.rows, length)

    def test_600_rows_and_601(self):
        for length, just, over in ((2, ROWS_600_OF_2, ROWS_601_OF_2), (6, ROWS_600_OF_6, ROWS_601_OF_6)):
            rows = Web(*just).rows(length)
            self.assertEqual(len(rows), 600)
            self.assertEqual(rows, sorted(set(rows)))
            self.assertTrue(all(Web(*just).is_row(row) and len(row) == length for row in rows))
            self.refused(TooMany, {"most": 600}, Web(*over).rows, length)
        self.assertEqual(len(Web(1, [(0, 0)] * 400).rows(1)), 400)
        self.refused(TooMany, {"most": 600}, Web(1, [(0, 0)] * 400).rows, 6)

    def test_many(self):
        for rooms, arrows in SMALL:
            web = Web(rooms, arrows)
            self.told_as(web.many(0), rooms)
            for length in range(1, 7):
                self.told_as(web.many(length), len(slow_rows(arrows, length)))

    def test_many_up_to_60(self):
        golden = Web(*GOLDEN)
        one, two = 2, 3
        for length in range(61):
            self.told_as(golden.many(length), one)
            one, two = two, one + two
        wide = Web(1, [(0, 0)] * 400)
        for length in (0, 1, 59, 60):
            self.told_as(wide.many(length), 400 ** length)

    def test_many_refused(self):
        for length in (*BELOW, *beyond(60)):
            self.refused(BadWindow, {}, Web(*GOLDEN).many, length)

    def test_rounds(self):
        for rooms, arrows in SMALL:
            web = Web(rooms, arrows)
            for length in range(1, 7):
                self.told_as(web.rounds(length), len(slow_rounds(arrows, length)))

    def test_rounds_up_to_60(self):
        golden = Web(*GOLDEN)
        one, two = 1, 3
        for length in range(1, 61):
            self.told_as(golden.rounds(length), one)
            one, two = two, one + two
        ring = Web(7, [(room, (room + 1) % 7) for room in range(7)])
        for length in range(1, 61):
            self.told_as(ring.rounds(length), 7 if length % 7 == 0 else 0)
        wide = Web(*loops(*[4] * 100))
        for length in (1, 2, 59, 60):
            self.told_as(wide.rounds(length), 100 * 4 ** length)

    def test_rounds_refused(self):
        for length in (0, *BELOW, *beyond(60)):
            self.refused(BadWindow, {}, Web(*GOLDEN).rounds, length)

    def test_is_row(self):
        for rooms, arrows in SMALL:
            web = Web(rooms, arrows)
            for length in range(1, 4):
                rows = set(slow_rows(arrows, length))
                for number in range(len(arrows) ** length):
                    row = tuple(number // len(arrows) ** k % len(arrows) for k in range(length))
                    self.told_as(web.is_row(row), row in rows)
                    self.told_as(web.is_row(list(row)), row in rows)

    def test_the_empty_row_and_long_ones(self):
        web = Web(*GOLDEN)
        self.told_as((web.is_row(()), web.is_row([])), (True, True))
        self.told_as((web.is_row([1, 2] * 300), web.is_row([1, 2] * 299 + [1, 1])), (True, False))

    def test_rows_that_hold_what_is_no_arrow(self):
        web = Web(*GOLDEN)
        for arrow in (*BELOW, -3, *beyond(2)):
            for row in ((arrow,), (arrow, 0), (0, arrow), (0, 0, arrow), (arrow, arrow)):
                self.told_as(web.is_row(row), False)
                self.told_as(web.is_row(list(row)), False)


if __name__ == "__main__":
    unittest.main()
