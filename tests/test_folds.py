"""Folds, splits, namings and classes, and their codes: [2], [6], [7], [8] and [9]."""

import itertools
import unittest

from aheadfold.alike import naming
from aheadfold.errors import BadFold, BadNaming, BadPart, BadRoom, TooMany
from aheadfold.folds import (classes, fold, fold_codes, folded, folds_of, named, named_codes, split, split_codes,
                             total)
from aheadfold.readers import joined, same
from aheadfold.walkers import Walker
from aheadfold.webs import Web
from helpers import (BELOW, FAR, ROWS_600_OF_2, ROWS_601_OF_2, SMALL, Case, Chance, beyond, few_walkers, loops,
                     slow_fold)

GOLDEN = Web(2, [(0, 0), (0, 1), (1, 0)])
# The rooms 1 and 3 fold, and no others; the arrows to 3 stand behind and ahead of those to 1.
PAIR = Web(4, [(0, 1), (0, 3), (1, 0), (3, 2), (2, 3), (2, 1)])
# Two rooms that fold, with parallel arrows.
DOUBLE = Web(2, [(0, 1), (0, 0), (0, 1), (0, 0), (1, 0), (1, 1)])
# The rooms 0 and 2 fold, and 1 and 2 do not; a room stands behind the greater one.
MIDDLE = Web(4, [(3, 2), (3, 0), (0, 3), (2, 3), (1, 0), (1, 2), (2, 1), (3, 1)])


def some_webs(count, seed=1):
    chance = Chance(seed)
    return [Web(*told) for told in SMALL] + [PAIR, DOUBLE, MIDDLE] + [
        chance.kin(chance.small(), 4) for step in range(count)]


def partitions(rooms):
    """All likenesses of so many rooms, as tuples with the least room of each one's class."""
    return [told for told in itertools.product(range(rooms), repeat=rooms)
            if all(told[room] <= room and told[told[room]] == told[room] for room in range(rooms))]


def is_likeness(web, told):
    """Whether rooms are alike as soon as just as many arrows lead to both from each class."""
    rooms = range(web.rooms())

    def from_each(room):
        return [sum(web.leading(begin, room) for begin in rooms if told[begin] == first) for first in rooms]

    return all(told[one] == told[other] for one in rooms for other in rooms if from_each(one) == from_each(other))


def slow_classes(web):
    rooms = range(web.rooms())
    found = [told for told in partitions(web.rooms()) if is_likeness(web, told)]
    # The least likeness: rooms are alike where all likenesses make them so.
    return sorted({tuple(other for other in rooms if all(told[one] == told[other] for told in found))
                   for one in rooms})


def all_lasts(web, known=None):
    """All webs at which folds end, in whatever order."""
    known = {} if known is None else known
    key = (web.rooms(), tuple(web.arrows()))
    if key not in known:
        known[key] = None
        pairs = folds_of(web)
        known[key] = web if not pairs else None
        for one, other in pairs:
            all_lasts(fold(web, one, other), known)
    return [last for last in known.values() if last is not None]


class Folds(Case):
    def test_pairs_that_fold(self):
        self.told_as(folds_of(PAIR), [(1, 3)])
        self.told_as(folds_of(DOUBLE), [(0, 1)])
        self.told_as(folds_of(MIDDLE), [(0, 2)])
        self.told_as(folds_of(GOLDEN), [])
        self.told_as(folds_of(web=Web(1, [(0, 0)])), [])

    def test_rooms_without_ways_in_fold(self):
        self.told_as(folds_of(Web(4, [(0, 2), (1, 2), (2, 2), (3, 2)])), [(0, 1), (0, 3), (1, 3)])

    def test_pairs_are_those_with_as_many_arrows_from_each_room(self):
        for web in some_webs(60):
            rooms = range(web.rooms())
            slow = [(one, other) for one in rooms for other in rooms if one < other and
                    all(web.leading(room, one) == web.leading(room, other) for room in rooms)]
            self.told_as(folds_of(web), slow)

    def test_folded_webs(self):
        self.assertEqual(fold(PAIR, 1, 3), Web(3, [(0, 1), (1, 0), (1, 2), (2, 1)]))
        self.assertEqual(fold(DOUBLE, 0, 1), Web(1, [(0, 0)] * 3))
        self.assertEqual(fold(web=MIDDLE, one=0, other=2), Web(3, [(2, 0), (0, 2), (0, 2), (1, 0), (0, 1), (2, 1)]))

    def test_folded_word_for_word(self):
        many = 0
        for web in some_webs(60):
            for one, other in folds_of(web):
                arrows, images = slow_fold(web, one, other)
                small = fold(web, one, other)
                self.assertEqual(small, Web(web.rooms() - 1, arrows))
                there, back = fold_codes(web, one, other)
                self.assertEqual(there.table(), {(arrow,): image for arrow, image in enumerate(images)})
                self.assertEqual((there.web(), there.other()), (web, small))
                self.assertEqual((back.web(), back.other()), (small, web))
                many += 1
        self.assertGreater(many, 40)

    def test_no_rooms_come_ahead_of_no_fold(self):
        for call in (fold, fold_codes):
            for strange in BELOW + beyond(3):
                for things in ((strange, 0), (0, strange), (3, strange), (strange, strange), (strange, 3)):
                    self.refused(BadRoom, {}, call, PAIR, *things)

    def test_what_does_not_fold(self):
        for call in (fold, fold_codes):
            for room in range(4):
                self.refused(BadFold, {}, call, PAIR, room, room)
            for one, other in ((3, 1), (0, 1), (0, 2), (0, 3), (1, 2), (2, 3), (2, 0), (1, 0)):
                self.refused(BadFold, {}, call, PAIR, one, other)
            # As many in all, but not from each room; and the same rooms, but not as many arrows.
            self.refused(BadFold, {}, call, Web(2, [(0, 0), (1, 1)]), 0, 1)
            self.refused(BadFold, {}, call, Web(2, [(0, 0), (0, 1), (0, 1), (1, 0), (1, 1)]), 0, 1)

    def test_the_web_stays_as_it_was(self):
        web = Web(4, PAIR.arrows())
        small = fold(web, 1, 3)
        fold_codes(web, 1, 3)
        folds_of(web).clear()
        self.refused(BadFold, {}, fold, web, 0, 1)
        self.assertEqual(web, PAIR)
        self.assertEqual(fold(web, 1, 3), small)
        self.told_as(folds_of(web), [(1, 3)])


class FoldCodes(Case):
    def test_tables(self):
        there, back = fold_codes(DOUBLE, 0, 1)
        self.told_as(there.table(), {(0,): 0, (1,): 0, (2,): 1, (3,): 1, (4,): 2, (5,): 2})
        # The arrow 2 began in the greater room.
        self.told_as(back.table(), {(0, 0): 1, (0, 1): 1, (0, 2): 0, (1, 0): 3, (1, 1): 3, (1, 2): 2,
                                    (2, 0): 4, (2, 1): 4, (2, 2): 5})
        self.assertEqual(fold_codes(web=DOUBLE, one=0, other=1), (there, back))
        self.assertIs(type(fold_codes(DOUBLE, 0, 1)), tuple)

    def test_only_ways_to_the_two_rooms_look_ahead(self):
        back = fold_codes(PAIR, 1, 3)[1]
        self.told_as(back.table(), {(0, 1): 0, (0, 2): 1, (1, 0): 2, (2, 3): 3, (3, 1): 5, (3, 2): 4})

    def test_least_forms(self):
        # Nothing leads to the two rooms, so that the way back need not look ahead.
        web = Web(3, [(0, 2), (1, 2), (2, 2)])
        there, back = fold_codes(web, 0, 1)
        self.assertEqual((there.window(), back.window()), (1, 1))
        self.assertEqual(back.table(), {(0,): 0, (1,): 1, (2,): 2})
        for web in some_webs(40, seed=2):
            for one, other in folds_of(web):
                there, back = fold_codes(web, one, other)
                self.assertEqual(there.window(), 1)
                self.assertEqual(back.window(), back.least().window())
                self.assertEqual(back.window(), 2 if web.ins(one) else 1)

    def test_back_of_there_and_there_of_back(self):
        for web in some_webs(20, seed=3):
            for one, other in folds_of(web):
                there, back = fold_codes(web, one, other)
                self.assertEqual(joined(there, back), same(web))
                self.assertEqual(joined(back, there), same(there.other()))

    def test_walkers_there_and_back(self):
        for web, pair in ((DOUBLE, (0, 1)), (PAIR, (1, 3)), (MIDDLE, (0, 2))):
            there, back = fold_codes(web, *pair)
            for walker in few_walkers(web, 2):
                self.assertEqual(back.made(there.made(walker)), walker)
            for walker in few_walkers(there.other(), 2):
                self.assertEqual(there.made(back.made(walker)), walker)

    def test_rows_of_two(self):
        for told, most in ((ROWS_600_OF_2, None), (ROWS_601_OF_2, 600)):
            small = Web(*told)
            great = split(small, 0, [0])
            self.assertEqual(fold(great, 0, small.rooms()), small)
            if most is None:
                there, back = fold_codes(great, 0, small.rooms())
                self.assertEqual((len(there), len(back)), (len(great), 600))
            else:
                self.refused(TooMany, {"most": 600}, fold_codes, great, 0, small.rooms())
                # Other refusals are due first.
                self.refused(BadRoom, {}, fold_codes, great, 0, small.rooms() + 1)
                self.refused(BadFold, {}, fold_codes, great, 0, 1)

    def test_rows_of_two_are_those_of_the_folded_web(self):
        # The great web has more than 600 rows of two arrows, the folded one has not.
        small = Web(1, [(0, 0)] * 20)
        great = split(small, 0, list(range(10)))
        self.assertEqual((small.many(2), great.many(2)), (400, 800))
        there, back = fold_codes(great, 0, 1)
        self.assertEqual((len(there), len(back)), (40, 400))

    def test_refused_even_where_the_way_back_would_not_look_ahead(self):
        web = Web(3, [(0, 2), (1, 2)] + [(2, 2)] * 25)
        self.refused(TooMany, {"most": 600}, fold_codes, web, 0, 1)


class Splits(Case):
    def test_split_webs(self):
        self.assertEqual(split(GOLDEN, 0, [1]), Web(3, [(0, 0), (2, 1), (1, 0), (0, 2), (1, 2)]))
        self.assertEqual(split(GOLDEN, 0, (0,)), Web(3, [(2, 0), (0, 1), (1, 0), (2, 2), (1, 2)]))
        self.assertEqual(split(web=Web(1, [(0, 0)] * 3), room=0, part=[2, 0]),
                         Web(2, [(1, 0), (0, 0), (1, 0), (1, 1), (0, 1), (1, 1)]))

    def test_a_room_without_ways_in(self):
        self.assertEqual(split(Web(2, [(0, 1), (0, 1), (1, 1)]), 0, [1]), Web(3, [(0, 1), (2, 1), (1, 1)]))

    def test_no_room(self):
        for call in (split, split_codes):
            for strange in BELOW + beyond(1):
                self.refused(BadRoom, {}, call, GOLDEN, strange, [0])
                self.refused(BadRoom, {}, call, GOLDEN, strange, [])

    def test_no_part(self):
        for call in (split, split_codes):
            for part in ([], [0, 1], [1, 0], [0, 0], [1, 1], [0, 1, 1], [2], [0, 2], [0, -3], [-2], [3], [0, FAR],
                         [-FAR], (), (0, 0), (0, 1)):
                self.refused(BadPart, {}, call, GOLDEN, 0, part)
            # Of a room with one arrow out there is no part.
            for part in ([], [2], [0], [1]):
                self.refused(BadPart, {}, call, GOLDEN, 1, part)
            for part in ([0, 0], [0, 1, 0], [1, 1], [0, 1, 2], [0, 3]):
                self.refused(BadPart, {}, call, Web(1, [(0, 0)] * 3), 0, part)

    def test_a_hundred_rooms(self):
        for call in (split, split_codes):
            rooms, arrows = loops(2, *([1] * 99))
            self.refused(TooMany, {"most": 100}, call, Web(rooms, arrows), 0, [0])
            # Of both bounds this one is named first.
            rooms, arrows = loops(201, *([1] * 99))
            self.refused(TooMany, {"most": 100}, call, Web(rooms, arrows), 0, [0])
            self.refused(BadPart, {}, call, Web(rooms, arrows), 0, [])
            self.refused(BadPart, {}, call, Web(rooms, arrows), 1, [201])
            self.refused(BadRoom, {}, call, Web(rooms, arrows), 100, [0])
        rooms, arrows = loops(2, *([1] * 98))
        self.assertEqual(split(Web(rooms, arrows), 0, [0]).rooms(), 100)
        self.assertEqual(split_codes(Web(rooms, arrows), 0, [0])[1].web().rooms(), 100)

    def test_four_hundred_arrows(self):
        self.assertEqual(len(split(Web(1, [(0, 0)] * 200), 0, [7])), 400)
        self.assertEqual(len(split(Web(2, [(0, 0)] * 199 + [(0, 1), (1, 1)]), 0, [0])), 400)
        for call in (split, split_codes):
            self.refused(TooMany, {"most": 400}, call, Web(1, [(0, 0)] * 201), 0, [7])
            self.refused(TooMany, {"most": 400}, call, Web(2, [(0, 0)] * 200 + [(1, 1)]), 0, [7])
            self.refused(BadPart, {}, call, Web(1, [(0, 0)] * 201), 0, [7, 7])
            self.refused(TooMany, {"most": 400}, call, Web(2, [(0, 1)] * 2 + [(1, 0)] + [(1, 1)] * 397), 0, [0])
        # To this room nothing leads, so that no arrow more is needed.
        full = Web(2, [(0, 1)] * 2 + [(1, 1)] * 398)
        self.assertEqual(len(split(full, 0, [1])), 400)

    def test_to_fold_the_two_undoes_it(self):
        chance = Chance(4)
        for web in some_webs(60, seed=4):
            found = chance.part(web)
            if found:
                great = split(web, *found)
                pair = (found[0], web.rooms())
                self.assertIn(pair, folds_of(great))
                self.assertEqual(fold(great, *pair), web)

    def test_handed_parts_stay(self):
        part = [1, 0]
        web = Web(1, [(0, 0)] * 3)
        great = split(web, 0, part)
        split_codes(web, 0, part)
        self.assertEqual(part, [1, 0])
        part[0] = 2
        self.assertEqual(great, split(web, 0, (0, 1)))
        self.assertEqual(web, Web(1, [(0, 0)] * 3))
        short = [0, 0]
        self.refused(BadPart, {}, split, web, 0, short)
        self.assertEqual(short, [0, 0])

    def test_codes_are_those_of_the_fold_the_other_way(self):
        chance = Chance(5)
        for web in some_webs(40, seed=5):
            found = chance.part(web)
            if found:
                there, back = split_codes(web, *found)
                self.assertEqual((back, there), fold_codes(split(web, *found), found[0], web.rooms()))
                self.assertEqual((there.window(), back.window()), (there.least().window(), 1))
                self.assertEqual(joined(there, back), same(web))
                self.assertEqual(joined(back, there), same(split(web, *found)))

    def test_codes_by_hand(self):
        there, back = split_codes(web=GOLDEN, room=0, part=(1,))
        self.told_as(there.table(), {(0, 0): 0, (0, 1): 3, (1, 2): 1, (2, 0): 2, (2, 1): 4})
        self.told_as(back.table(), {(0,): 0, (1,): 1, (2,): 2, (3,): 0, (4,): 2})
        self.assertEqual(there.made(Walker(GOLDEN, [0], [1, 2])), Walker(split(GOLDEN, 0, [1]), [3], [1, 4]))
        self.assertIs(type(split_codes(GOLDEN, 0, [1])), tuple)

    def test_rows_of_two(self):
        there, back = split_codes(Web(*ROWS_600_OF_2), 0, [3])
        self.assertEqual(len(there), 600)
        self.refused(TooMany, {"most": 600}, split_codes, Web(*ROWS_601_OF_2), 0, [3])
        self.refused(BadPart, {}, split_codes, Web(*ROWS_601_OF_2), 0, [])
        # The split web may have more of them.
        there, back = split_codes(Web(1, [(0, 0)] * 20), 0, list(range(10)))
        self.assertEqual((there.other().many(2), len(there), len(back)), (800, 400, 40))


class Namings(Case):
    def test_named_webs(self):
        self.assertEqual(named(GOLDEN, [1, 0], [2, 0, 1]), Web(2, [(1, 0), (0, 1), (1, 1)]))
        self.assertEqual(named(web=GOLDEN, rooms=(0, 1), arrows=(1, 2, 0)), Web(2, [(1, 0), (0, 0), (0, 1)]))
        self.assertEqual(named(GOLDEN, [0, 1], [0, 1, 2]), GOLDEN)

    def test_room_k_and_arrow_k(self):
        chance = Chance(6)
        for web in some_webs(40, seed=6):
            rooms, arrows = chance.mixed(web.rooms()), chance.mixed(len(web))
            fresh = named(web, rooms, arrows)
            for arrow in range(len(web)):
                self.assertEqual(fresh.begin(arrows[arrow]), rooms[web.begin(arrow)])
                self.assertEqual(fresh.end(arrows[arrow]), rooms[web.end(arrow)])
            turned = [[row.index(number) for number in range(len(row))] for row in (rooms, arrows)]
            self.assertEqual(named(fresh, *turned), web)
            there, back = named_codes(web, rooms, arrows)
            self.assertEqual((back, there), named_codes(fresh, *turned))

    def test_no_naming(self):
        for call in (named, named_codes):
            for rooms in ([0, 0], [1, 1], [0, 2], [-1, 0], [0, -1], [0], [], [0, 1, 2], [1, 2], [0, FAR], [-FAR, 1],
                          (0, 0), (1,)):
                self.refused(BadNaming, {}, call, GOLDEN, rooms, [0, 1, 2])
            for arrows in ([0, 1, 1], [0, 0, 2], [1, 2, 3], [-1, 0, 1], [0, 1, -1], [0, 1], [], [0, 1, 2, 3],
                           [0, 1, FAR], (2, 1), (0, 0, 0)):
                self.refused(BadNaming, {}, call, GOLDEN, [0, 1], arrows)
            self.refused(BadNaming, {}, call, GOLDEN, [0], [0])

    def test_codes(self):
        there, back = named_codes(GOLDEN, [1, 0], [2, 0, 1])
        fresh = named(GOLDEN, [1, 0], [2, 0, 1])
        self.told_as(there.table(), {(0,): 2, (1,): 0, (2,): 1})
        self.told_as(back.table(), {(0,): 1, (1,): 2, (2,): 0})
        self.assertEqual((there.web(), there.other(), back.web(), back.other()), (GOLDEN, fresh, fresh, GOLDEN))
        self.assertEqual((there.window(), back.window()), (1, 1))
        self.assertEqual(named_codes(web=GOLDEN, rooms=(1, 0), arrows=(2, 0, 1)), (there, back))
        self.assertIs(type(named_codes(GOLDEN, [1, 0], [2, 0, 1])), tuple)
        for walker in few_walkers(GOLDEN):
            self.assertEqual(back.made(there.made(walker)), walker)
        for walker in few_walkers(fresh):
            self.assertEqual(there.made(back.made(walker)), walker)

    def test_rows_of_two(self):
        for told, refused in ((ROWS_600_OF_2, False), (ROWS_601_OF_2, True)):
            web = Web(*told)
            rooms, arrows = list(range(web.rooms()))[::-1], list(range(len(web)))[::-1]
            if refused:
                self.refused(TooMany, {"most": 600}, named_codes, web, rooms, arrows)
                self.refused(BadNaming, {}, named_codes, web, rooms[1:], arrows)
            else:
                self.assertEqual(len(named_codes(web, rooms, arrows)[0]), len(web))
            self.assertEqual(len(named(web, rooms, arrows)), len(web))

    def test_handed_lists_stay(self):
        rooms, arrows = [1, 0], [2, 0, 1]
        fresh = named(GOLDEN, rooms, arrows)
        codes = named_codes(GOLDEN, rooms, arrows)
        self.assertEqual((rooms, arrows), ([1, 0], [2, 0, 1]))
        rooms.clear()
        arrows.clear()
        self.assertEqual(fresh, Web(2, [(1, 0), (0, 1), (1, 1)]))
        self.assertEqual(codes, named_codes(GOLDEN, [1, 0], [2, 0, 1]))


class RowsOfFolds(Case):
    def test_one_by_one(self):
        web = Web(4, [(room, other) for room in range(4) for other in range(4)])
        self.assertEqual(folded(web, []), web)
        self.assertEqual(folded(web, [(0, 3)]), fold(web, 0, 3))
        self.assertEqual(folded(web, [[0, 3], [1, 2]]), fold(fold(web, 0, 3), 1, 2))
        self.assertEqual(folded(web=web, folds=((0, 1), (0, 1), (0, 1))), Web(1, [(0, 0)] * 4))

    def test_each_is_folded_in_the_web_behind_those_ahead(self):
        # After the first fold the room 2 is gone, and only then the rooms 0 and 1 fold.
        web = Web(4, [(0, 3), (1, 2), (2, 0), (3, 1), (0, 2), (1, 3)])
        self.assertEqual(folds_of(web), [(2, 3)])
        self.assertEqual(folded(web, [(2, 3), (0, 1)]), Web(2, [(0, 1), (1, 0), (0, 1)]))
        self.refused(BadRoom, {}, folded, web, [(2, 3), (0, 3)])
        self.refused(BadFold, {}, folded, web, [(0, 1), (2, 3)])

    def test_refused_as_folds_are(self):
        self.refused(BadRoom, {}, folded, PAIR, [(1, 4)])
        self.refused(BadRoom, {}, folded, PAIR, [(-1, 1)])
        self.refused(BadFold, {}, folded, PAIR, [(3, 1)])
        self.refused(BadFold, {}, folded, PAIR, [(1, 1)])
        self.refused(BadFold, {}, folded, PAIR, [(1, 3), (0, 1)])
        self.refused(BadRoom, {}, folded, PAIR, [(1, 3), (1, 3)])
        # What comes first is refused first.
        self.refused(BadFold, {}, folded, PAIR, [(0, 1), (9, 9)])

    def test_handed_rows_stay(self):
        folds = [[1, 3]]
        small = folded(PAIR, folds)
        self.assertEqual(folds, [[1, 3]])
        folds[0][0] = 0
        self.assertEqual(small, fold(PAIR, 1, 3))


class Classes(Case):
    def test_by_hand(self):
        self.told_as(classes(GOLDEN), [[0], [1]])
        self.told_as(classes(web=PAIR), [[0, 2], [1, 3]])
        self.told_as(classes(DOUBLE), [[0, 1]])
        self.told_as(classes(MIDDLE), [[0, 2], [1], [3]])
        self.told_as(classes(Web(4, [(0, 2), (1, 2), (2, 2), (3, 2)])), [[0, 1, 3], [2]])

    def test_the_least_likeness(self):
        for web in some_webs(150, seed=7):
            if web.rooms() <= 5:
                self.assertEqual([tuple(rooms) for rooms in classes(web)], slow_classes(web))

    def test_a_long_row_of_likenesses(self):
        # Each two rooms fold only after the two behind them do.
        many = 49
        arrows = [(0, 0), (0, 1), (0, 2)]
        for step in range(many - 1):
            one, other = 2 * step + 1, 2 * step + 2
            arrows += [(one, one + 2), (other, other + 2)]
        arrows += [(2 * many - 1, 0), (2 * many, 0)]
        web = Web(2 * many + 1, arrows)
        self.assertEqual(classes(web), [[0]] + [[2 * step + 1, 2 * step + 2] for step in range(many)])
        last, folds = total(web)
        self.assertEqual((last.rooms(), len(folds)), (many + 1, many))

    def test_told_anew(self):
        told = classes(PAIR)
        told[0].append(9)
        told.pop()
        self.told_as(classes(PAIR), [[0, 2], [1, 3]])

    def test_total(self):
        last, folds = total(web=PAIR)
        self.told_as(folds, [(1, 3), (0, 2)])
        self.assertEqual(last, folded(PAIR, folds))
        self.assertIs(type(total(PAIR)), tuple)
        self.told_as(total(GOLDEN)[1], [])
        self.assertEqual(total(GOLDEN)[0], GOLDEN)

    def test_total_told_anew(self):
        folds = total(PAIR)[1]
        folds.clear()
        self.told_as(total(PAIR)[1], [(1, 3), (0, 2)])

    def test_total_folds_always_the_first_pair(self):
        many = 0
        for web in some_webs(80, seed=8):
            last, folds = total(web)
            steps = web
            for pair in folds:
                self.assertEqual(pair, folds_of(steps)[0])
                steps = fold(steps, *pair)
            self.assertEqual(folds_of(steps), [])
            self.assertEqual(last, steps)
            self.assertEqual(last.rooms(), len(classes(web)))
            many += len(folds) > 1
        self.assertGreater(many, 20)

    def test_in_whatever_order(self):
        several = 0
        for web in some_webs(60, seed=9):
            lasts = all_lasts(web)
            for last in lasts:
                self.assertEqual(last.rooms(), len(classes(web)))
                self.assertIsNotNone(naming(last, total(web)[0]))
            several += len(folds_of(web)) > 1
        self.assertGreater(several, 10)

    def test_great_webs(self):
        full = Web(20, [(room, other) for room in range(20) for other in range(20)])
        self.told_as(classes(full), [list(range(20))])
        last, folds = total(full)
        self.assertEqual((last, folds), (Web(1, [(0, 0)] * 20), [(0, 1)] * 19))
        wide = Web(100, [(room, 0) for room in range(100)])
        self.told_as(total(wide)[1], [(1, 2)] * 98)
        self.told_as(classes(wide), [[0], list(range(1, 100))])
        self.assertEqual(len(folds_of(wide)), 99 * 98 // 2)

    def test_rounds_stay(self):
        chance = Chance(10)
        for web in some_webs(30, seed=10):
            turned = [chance.splitted(web), chance.folded(web), chance.renamed(web), total(web)[0]]
            for length in (1, 2, 3, 4, 5, 6, 11):
                self.assertEqual({other.rounds(length) for other in turned}, {web.rounds(length)})


if __name__ == "__main__":
    unittest.main()
