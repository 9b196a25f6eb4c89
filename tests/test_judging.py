"""Twins, missing rows, papers of reaching and ways back: [2], [13], [14], [15] and [16]."""

import itertools
import unittest
from unittest import mock

from aheadfold import judging
from aheadfold.errors import BadWindow, NotBack, TooMany
from aheadfold.folds import fold_codes, named_codes, split, split_codes
from aheadfold.judging import (MOST_PAIRS, MOST_SETS, is_one, missing, reaches, sets_hold, sets_of, twins, way_back)
from aheadfold.readers import Reader, joined, same
from aheadfold.walkers import Walker
from aheadfold.webs import Web
from helpers import (BELOW, ROWS_600_OF_2, ROWS_601_OF_2, THREE, TWO, Case, Chance, all_readers, beyond, exchanging,
                     few_walkers, ones_ahead, reader_by, rule_reader, slow_rows, turning, wider)

GOLDEN = Web(2, [(0, 0), (0, 1), (1, 0)])
RING = Web(2, [(0, 1), (1, 0)])
ONE = Web(1, [(0, 0)])
# Rules of two arrows that look at three: those that reach are known since long.
REACHING = (15, 30, 45, 51, 60, 75, 85, 86, 89, 90, 101, 102, 105, 106, 120, 135, 149, 150, 153, 154, 165, 166,
            169, 170, 180, 195, 204, 210, 225, 240)


def slow_image(reader, row):
    """What a reader makes of a row, by its table alone."""
    table, window = reader.table(), reader.window()
    return tuple(table[row[at:at + window]] for at in range(len(row) - window + 1))


def slow_is_one(reader):
    """Whether no two walks unlike in their first arrow go together as long as there are pairs of rows."""
    web, table, window = reader.web(), reader.table(), reader.window()
    pairs = {(one, other) for one in table for other in table
             if one[0] != other[0] and table[one] == table[other]}
    for step in range(len(table) ** 2 + 1):
        pairs = {(one[1:] + (near,), other[1:] + (far,)) for one, other in pairs
                 for near in web.outs(web.end(one[-1])) for far in web.outs(web.end(other[-1]))
                 if table[one[1:] + (near,)] == table[other[1:] + (far,)]}
        if not pairs:
            return True
    return False


def slow_missing(reader, longest):
    """The first of the shortest rows that are not made, of at most so many arrows, or None."""
    for length in range(1, longest + 1):
        made = {slow_image(reader, row)
                for row in slow_rows(reader.web().arrows(), length + reader.window() - 1)}
        for row in slow_rows(reader.other().arrows(), length):
            if row not in made:
                return row
    return None


def several():
    """A list of readers of many sorts, small enough to be judged the slow way."""
    found = all_readers(GOLDEN, GOLDEN, 2) + all_readers(GOLDEN, TWO, 1) + all_readers(RING, GOLDEN, 1)
    found += all_readers(RING, RING, 1) + all_readers(TWO, TWO, 2) + all_readers(THREE, TWO, 1)
    found += all_readers(RING, ONE, 1) + all_readers(TWO, GOLDEN, 1)
    found += all_readers(Web(2, [(0, 1), (1, 1)]), Web(2, [(0, 1), (1, 1)]), 1)
    found += all_readers(Web(3, [(0, 2), (1, 2), (2, 2), (2, 0)]), Web(2, [(0, 1), (1, 1), (1, 0)]), 1)
    found += [code for code in split_codes(GOLDEN, 0, [1])]
    found += [reader_by(RING, TWO, 2, lambda row: row[0]), same(RING)]
    found += [exchanging(THREE, 0, 1, [2]), ones_ahead(1), ones_ahead(2)]
    return found


class Twins(Case):
    def test_bounds(self):
        self.assertEqual((MOST_PAIRS, MOST_SETS), (2000, 2000))

    def test_by_hand(self):
        reader = reader_by(TWO, ONE, 1, lambda row: 0)
        one, other = twins(reader)
        self.assertNotEqual(one.arrow(0), other.arrow(0))
        self.assertIs(type(twins(reader)), tuple)
        self.assertIsNone(twins(same(GOLDEN)))
        self.assertIsNone(twins(reader=same(GOLDEN), most=2000))
        self.assertIs(is_one(same(GOLDEN)), True)
        self.assertIs(is_one(reader=reader), False)

    def test_just_where_it_is_not_one_to_one(self):
        many = {True: 0, False: 0}
        for reader in several():
            slow = slow_is_one(reader)
            many[slow] += 1
            self.assertIs(is_one(reader), slow)
            found = twins(reader)
            self.assertEqual(found is None, slow)
            if found is not None:
                self.are_twins(reader, found)
        self.assertGreater(min(many.values()), 12)

    def are_twins(self, reader, found):
        one, other = found
        self.assertEqual((one.web(), other.web()), (reader.web(), reader.web()))
        self.assertNotEqual(one.arrow(0), other.arrow(0))
        self.assertEqual(reader.made(one), reader.made(other))

    def test_rules_of_three(self):
        self.assertEqual([number for number in range(256) if is_one(rule_reader(number))], [15, 240])
        for number in range(0, 256, 7):
            found = twins(rule_reader(number))
            if found is not None:
                self.are_twins(rule_reader(number), found)

    def test_twins_that_part_and_come_together_late(self):
        # The arrows 0 and 1 are made one, and so are the ways behind them, until both come to one room.
        web = Web(7, [(0, 1), (0, 2), (1, 3), (2, 4), (3, 5), (4, 5), (5, 6), (6, 0), (5, 5)])
        other = Web(5, [(0, 1), (1, 2), (2, 3), (3, 4), (4, 0), (3, 3)])
        arrows = [0, 0, 1, 1, 2, 2, 3, 4, 5]
        reader = reader_by(web, other, 1, lambda row: arrows[row[0]])
        self.are_twins(reader, twins(reader))
        # With one arrow made another one at the end of the ways there are none.
        other = Web(5, [(0, 1), (1, 2), (2, 3), (3, 4), (4, 0), (3, 3), (2, 3)])
        arrows = [0, 0, 1, 1, 2, 6, 3, 4, 5]
        self.assertIsNone(twins(reader_by(web, other, 1, lambda row: arrows[row[0]])))

    def test_twins_that_never_come_together(self):
        web = Web(4, [(0, 1), (1, 0), (2, 3), (3, 2)])
        reader = reader_by(web, RING, 1, lambda row: row[0] % 2)
        self.are_twins(reader, twins(reader))
        self.assertIs(is_one(reader), False)

    def test_asked_again_told_alike(self):
        reader = rule_reader(30)
        self.assertEqual(twins(reader), twins(reader))
        self.assertEqual(twins(reader), twins(rule_reader(30)))

    def test_most(self):
        for call in (twins, missing):
            for most in BELOW + (0,) + beyond(2000):
                self.refused(BadWindow, {}, call, same(GOLDEN), most=most)
                # That comes ahead of TooMany.
                self.refused(BadWindow, {}, call, reader_by(Web(1, [(0, 0)] * 50), ONE, 1, lambda row: 0), most=most)
            with self.assertRaises(TypeError):
                call(same(GOLDEN), 2000)

    def test_too_many_pairs(self):
        # Of each of the eight rows one arrow: 3 of the one, 5 of the other.
        reader = rule_reader(7)
        self.assertEqual(sorted(reader.table().values()).count(1), 3)
        self.assertIsNotNone(twins(reader, most=34))
        self.refused(TooMany, {"most": 33}, twins, reader, most=33)
        self.refused(TooMany, {"most": 1}, twins, reader, most=1)
        self.assertIsNone(twins(same(ONE), most=1))
        self.assertIsNone(twins(same(TWO), most=2))
        self.refused(TooMany, {"most": 1}, twins, same(TWO), most=1)

    def test_two_thousand(self):
        # 44 squared is 1936, and 8 squared is 64.
        arrows = [0] * 44 + [1] * 8
        reader = reader_by(Web(1, [(0, 0)] * 52), TWO, 1, lambda row: arrows[row[0]])
        self.assertIsNotNone(twins(reader))
        self.assertIs(is_one(reader), False)
        self.refused(TooMany, {"most": 1999}, twins, reader, most=1999)
        more = reader_by(Web(1, [(0, 0)] * 53), THREE, 1, lambda row: (arrows + [2])[row[0]])
        self.refused(TooMany, {"most": 2000}, twins, more)
        self.refused(TooMany, {"most": 2000}, is_one, more)
        self.refused(TooMany, {"most": 2000}, way_back, more)

    def test_pairs_are_those_of_the_least_form(self):
        told = wider(same(TWO), 6)
        self.assertEqual(len(told), 64)
        self.assertIsNone(twins(told, most=2))
        self.refused(TooMany, {"most": 1}, twins, told, most=1)
        self.assertIs(is_one(told), True)


class Missing(Case):
    def test_by_hand(self):
        self.assertIsNone(missing(same(GOLDEN)))
        self.told_as(missing(reader_by(ONE, TWO, 1, lambda row: 1)), (0,))
        self.told_as(missing(reader_by(ONE, TWO, 1, lambda row: 0)), (1,))
        golden = reader_by(GOLDEN, TWO, 1, lambda row: min(row[0], 1) if row[0] != 2 else 0)
        # The arrow 1 of the golden web is followed by 2, of which 0 is made.
        self.told_as(missing(reader=golden, most=2000), (1, 1))
        self.assertIs(reaches(golden), False)
        self.assertIs(reaches(reader=same(GOLDEN)), True)

    def test_the_shortest_and_of_these_the_first(self):
        many = 0
        for reader in several():
            slow = slow_missing(reader, 5)
            self.assertEqual(missing(reader), slow)
            self.assertIs(reaches(reader), slow is None)
            many += slow is not None and len(slow) > 1
        self.assertGreater(many, 5)

    def test_rules_of_three(self):
        self.assertEqual(tuple(number for number in range(256) if reaches(rule_reader(number))), REACHING)
        longest = 0
        for number in range(256):
            row = missing(rule_reader(number))
            if row is not None and len(row) <= 7:
                self.assertEqual(row, slow_missing(rule_reader(number), len(row)))
                longest = max(longest, len(row))
        self.assertGreaterEqual(longest, 5)

    def test_told_wider(self):
        for number in (110, 30, 7):
            self.assertEqual(missing(wider(rule_reader(number), 5)), missing(rule_reader(number)))

    def test_most_is_counted_with_the_first_pair(self):
        # (-1, all ends), then one pair for each room.
        self.assertIsNone(missing(same(ONE), most=2))
        self.refused(TooMany, {"most": 1}, missing, same(ONE), most=1)
        self.assertIsNone(missing(same(GOLDEN), most=3))
        for most in (1, 2):
            self.refused(TooMany, {"most": most}, missing, same(GOLDEN), most=most)

    def test_a_missing_row_comes_ahead_of_the_next_new_pair(self):
        # The first arrow is missing at once, the second one only behind the pair that the first one leads to.
        self.told_as(missing(reader_by(ONE, TWO, 1, lambda row: 1), most=1), (0,))
        reader = reader_by(ONE, TWO, 1, lambda row: 0)
        self.refused(TooMany, {"most": 1}, missing, reader, most=1)
        self.told_as(missing(reader, most=2), (1,))

    def test_pairs_of_the_least_form(self):
        self.assertIsNone(missing(wider(same(TWO), 5), most=2))

    def test_more_than_a_thousand_pairs(self):
        # All sets of ten rooms but the empty one, and the first pair.
        reader = turning(10)
        self.assertIsNone(missing(reader, most=1024))
        self.refused(TooMany, {"most": 1023}, missing, reader, most=1023)
        self.assertIs(reaches(reader), True)
        paper = sets_of(reader)
        self.assertEqual(len(paper), 1024)
        self.assertIs(sets_hold(reader, paper), True)
        self.assertIs(sets_hold(reader, paper[:1000] + paper[1001:]), False)

    def test_more_than_two_thousand_pairs(self):
        reader = turning(11)
        for call in (missing, reaches, sets_of):
            self.refused(TooMany, {"most": 2000}, call, reader)
        self.refused(TooMany, {"most": 2000}, missing, reader, most=2000)
        self.refused(TooMany, {"most": 1999}, missing, reader, most=1999)

    def test_just_two_thousand_pairs(self):
        # Rooms of their own, each with a ring, are pairs of their own.
        reader = self.beside(turning(10), 976)
        self.assertEqual(len(sets_of(reader)), 2000)
        self.assertIs(reaches(reader), True)
        self.refused(TooMany, {"most": 1999}, missing, reader, most=1999)
        more = self.beside(turning(10), 977)
        for call in (missing, reaches, sets_of):
            self.refused(TooMany, {"most": 2000}, call, more)

    def beside(self, reader, pairs):
        """The reader with a part of its own beside it that has so many pairs more."""
        halves = [self.part_with(many) for many in split_sum(pairs)]
        web, other, arrows = reader.web(), reader.other(), [reader.arrow((k,)) for k in range(len(reader.web()))]
        pairs, others, rooms, places = web.arrows(), other.arrows(), web.rooms(), other.rooms()
        for near, far, made in halves:
            arrows += [arrow + len(others) for arrow in made]
            pairs += [(begin + rooms, end + rooms) for begin, end in near.arrows()]
            others += [(begin + places, end + places) for begin, end in far.arrows()]
            rooms, places = rooms + near.rooms(), places + far.rooms()
        return Reader(Web(rooms, pairs), Web(places, others), 1, {(k,): arrow for k, arrow in enumerate(arrows)})

    def part_with(self, pairs):
        """Webs and made arrows that have just so many pairs, of one room each or of sets of rooms."""
        sizes = {2 ** rooms - 1: rooms for rooms in range(3, 11)}
        if pairs in sizes:
            reader = turning(sizes[pairs])
            return reader.web(), reader.other(), [reader.arrow((k,)) for k in range(len(reader.web()))]
        ring = Web(pairs, [(room, (room + 1) % pairs) for room in range(pairs)])
        return ring, ring, list(range(pairs))


def split_sum(pairs):
    """Numbers with this sum, each one less than a power of two, and a small rest."""
    found = []
    for size in (511, 255, 127, 63, 31, 15, 7):
        while pairs - size >= 0:
            found.append(size)
            pairs -= size
    return found + ([pairs] if pairs else [])


class Papers(Case):
    def test_by_hand(self):
        self.told_as(sets_of(same(RING)), [(-1, (0, 1)), (1, (1,)), (0, (0,))])
        self.told_as(sets_of(reader=reader_by(TWO, ONE, 1, lambda row: 0)), [(-1, (0,)), (0, (0,))])
        second = reader_by(TWO, TWO, 2, lambda row: row[1])
        self.told_as(sets_of(second), [(-1, ((0,), (1,))), (0, ((0,),)), (0, ((1,),))])
        self.assertIsNone(sets_of(reader_by(ONE, TWO, 1, lambda row: 0)))

    def test_just_where_it_reaches(self):
        many = 0
        for reader in several() + [rule_reader(number) for number in range(256)]:
            paper = sets_of(reader)
            self.assertEqual(paper is not None, reaches(reader))
            if paper is not None:
                self.assertIs(sets_hold(reader, paper), True)
                many += 1
        self.assertGreater(many, 40)

    def test_told_anew(self):
        reader = rule_reader(86)
        paper = sets_of(reader)
        told = list(paper)
        paper.clear()
        self.told_as(sets_of(reader), told)
        self.assertIs(type(told[0]), tuple)
        self.assertIs(type(told[0][1]), tuple)

    def test_for_the_least_form(self):
        reader = wider(rule_reader(86), 5)
        self.assertEqual(sets_of(reader), sets_of(rule_reader(86)))
        self.assertIs(sets_hold(reader, sets_of(rule_reader(86))), True)
        # Rows of another length, and rooms, are no ends of the least form.
        ends = tuple(TWO.rows(4))
        self.assertIs(sets_hold(reader, [(-1, ends), (0, ends)]), False)
        self.assertIs(sets_hold(reader, [(-1, (0,)), (0, (0,))]), False)
        self.assertIs(sets_hold(wider(same(TWO), 3), [(-1, (0,)), (0, (0,))]), True)
        self.assertIs(sets_hold(wider(same(TWO), 3), [(-1, tuple(TWO.rows(2))), (0, tuple(TWO.rows(2)))]), False)

    def test_lists_and_tuples_are_alike(self):
        for reader in (rule_reader(86), same(RING), wider(same(GOLDEN), 3)):
            paper = sets_of(reader)
            for told in (tuple(paper), [list(pair) for pair in paper], [(room, list(ends)) for room, ends in paper],
                         [(room, [list(end) if isinstance(end, tuple) else end for end in ends])
                          for room, ends in paper]):
                self.assertIs(sets_hold(reader=reader, sets=told), True)

    def test_more_than_is_needed(self):
        reader = same(RING)
        paper = sets_of(reader)
        self.assertIs(sets_hold(reader, paper + paper[:1]), True)
        self.assertIs(sets_hold(reader, paper[::-1]), True)
        # Another pair, closed too: any room with one end that makes only one arrow is not.
        self.assertIs(sets_hold(reader, paper + [(-1, (0,))]), False)
        self.assertIs(sets_hold(reader, paper + [(1, (0,))]), False)
        self.assertIs(sets_hold(reader, paper + [(0, (0, 1))]), True)
        # The same ends out of order or twice, though all that comes of them is there.
        for ends in ((1, 0), (0, 0), (0, 1, 1), (0, 0, 1), (0, 1, 0), [1, 0]):
            self.assertIs(sets_hold(reader, paper + [(0, ends)]), False)
            self.assertIs(sets_hold(reader, [(0, ends)] + paper), False)
        self.assertIs(sets_hold(reader, paper + [(0, (0, 1)), (1, (0, 1))]), True)

    def test_bent_papers(self):
        reader = rule_reader(86)
        paper = sets_of(reader)
        ends = TWO.rows(2)
        self.assertEqual(paper[0], (-1, tuple(ends)))
        self.assertGreater(len(paper), 3)
        for at in range(len(paper)):
            self.assertIs(sets_hold(reader, paper[:at] + paper[at + 1:]), False)
            room, told = paper[at]
            for bent in bent_ends(told, ends):
                self.assertIs(sets_hold(reader, paper[:at] + [(room, bent)] + paper[at + 1:]), False)
            for strange in (1, -2, 2, 10 ** 29, -10 ** 29):
                self.assertIs(sets_hold(reader, paper[:at] + [(strange, told)] + paper[at + 1:]), False)
                self.assertIs(sets_hold(reader, paper + [(strange, told)]), False)
        self.assertIs(sets_hold(reader, []), False)
        self.assertIs(sets_hold(reader, ()), False)

    def test_a_pair_more_that_is_not_formed_so(self):
        for reader, strange in ((same(RING), 2), (same(RING), -1), (same(RING), (0,)), (rule_reader(86), (2, 0)),
                                (rule_reader(86), (0,)), (rule_reader(86), ()), (rule_reader(86), (0, 0, 0)),
                                (rule_reader(86), 0), (same(RING), ()), (rule_reader(86), (0, -1))):
            paper = sets_of(reader)
            self.assertIs(sets_hold(reader, paper + [(0, (strange,))]), False)
            self.assertIs(sets_hold(reader, [(0, (strange,))] + paper), False)
            self.assertIs(sets_hold(reader, paper + [(0, paper[0][1] + (strange,))]), False)
        golden = wider(same(GOLDEN), 2)
        self.assertIs(sets_hold(golden, sets_of(golden)), True)

    def test_ends_that_do_not_follow(self):
        # The reader looks at three arrows of the golden web: (1, 1) is no row of it.
        reader = reader_by(GOLDEN, GOLDEN, 3, lambda row: row[2])
        paper = sets_of(reader)
        self.assertIs(sets_hold(reader, paper), True)
        self.assertIs(sets_hold(reader, paper + [(0, ((1, 1),))]), False)
        self.assertIs(sets_hold(reader, paper + [(0, ((0, 0), (1, 1)))]), False)

    def test_where_it_does_not_reach_none_holds(self):
        reader = rule_reader(7)
        ends = TWO.rows(2)
        subsets = [told for many in range(1, 5) for told in itertools.combinations(ends, many)]
        paper = [(-1, tuple(ends))] + [(0, told) for told in subsets]
        self.assertIs(sets_hold(reader, paper), False)

    def test_the_handed_list_stays(self):
        reader = rule_reader(86)
        paper = [[room, list(ends)] for room, ends in sets_of(reader)]
        copy = [[room, list(ends)] for room, ends in paper]
        self.assertIs(sets_hold(reader, paper), True)
        self.assertEqual(paper, copy)
        paper.append([0, [5]])
        self.assertIs(sets_hold(reader, paper), False)
        self.assertEqual(paper, copy + [[0, [5]]])


def bent_ends(told, ends):
    """Ends with one out or in, none, out of order, twice, or that are none."""
    found = [told[:at] + told[at + 1:] for at in range(len(told))]
    found += [tuple(sorted(told + (end,))) for end in ends if end not in told]
    found += [told + told[-1:], (told[0],) + told, told + (told[0],), told + ((7, 7),), told + ((0, 0, 0),)]
    return found + ([told[::-1]] if len(told) > 1 else []) + [()]


class WaysBack(Case):
    def undoes(self, reader, back):
        self.assertEqual((back.web(), back.other()), (reader.other(), reader.web()))
        self.assertEqual(back.window(), back.least().window())
        self.assertEqual(joined(reader, back), same(reader.web()))
        self.assertEqual(joined(back, reader), same(reader.other()))

    def test_by_hand(self):
        back = way_back(reader=split_codes(GOLDEN, 0, [1])[0])
        self.assertEqual(back, split_codes(GOLDEN, 0, [1])[1])
        self.assertEqual(back.window(), 1)
        self.assertEqual(way_back(same(GOLDEN)), same(GOLDEN))
        self.assertEqual(way_back(wider(same(GOLDEN), 4)).window(), 1)

    def test_just_where_it_is_one_to_one_and_reaches(self):
        many = 0
        for reader in several():
            if slow_is_one(reader) and slow_missing(reader, 5) is None:
                self.undoes(reader, way_back(reader))
                many += 1
            else:
                self.refused(NotBack, {}, way_back, reader)
        self.assertGreater(many, 8)

    def test_not_back(self):
        # Not one to one, but reaching; one to one, but not reaching; neither.
        for reader in (rule_reader(30), reader_by(RING, THREE, 1, lambda row: row[0]),
                       reader_by(TWO, TWO, 1, lambda row: 0)):
            self.refused(NotBack, {}, way_back, reader)
        self.assertIs(is_one(reader_by(RING, THREE, 1, lambda row: row[0])), True)

    def test_walkers_both_ways(self):
        for reader in (exchanging(THREE, 0, 1, [2]), ones_ahead(2)):
            back = way_back(reader)
            for walker in few_walkers(reader.web(), 2):
                self.assertEqual(back.made(reader.made(walker)), walker)
            for walker in few_walkers(reader.other(), 3):
                self.assertEqual(reader.made(back.made(walker)), walker)

    def test_codes(self):
        chance = Chance(21)
        for step in range(60):
            web = chance.kin(chance.small(), 3)
            rooms, arrows = chance.mixed(web.rooms()), chance.mixed(len(web))
            codes = [named_codes(web, rooms, arrows)]
            part = chance.part(web)
            if part:
                codes.append(split_codes(web, *part))
                codes.append(fold_codes(split(web, *part), part[0], web.rooms()))
            for there, back in codes:
                if sum_of_squares(there) <= 2000 and sum_of_squares(back) <= 2000:
                    self.told_as(way_back(there).table(), back.table())
                    self.told_as(way_back(back).table(), there.table())

    def test_windows_to_six(self):
        for many in range(1, 6):
            back = way_back(ones_ahead(many))
            self.assertEqual(back.window(), many + 1)
            self.assertEqual(joined(ones_ahead(many), back), same(ones_ahead(many).web()))
            self.assertEqual(joined(back, ones_ahead(many)), same(TWO))

    def test_six_is_not_enough(self):
        self.refused(TooMany, {"most": 6}, way_back, ones_ahead(6))
        self.refused(TooMany, {"most": 6}, way_back, ones_ahead(7))
        # Seven arrows, too, have fewer than 600 rows here.
        self.assertEqual(TWO.many(7), 128)

    def test_rows_of_the_next_window(self):
        # Of nine arrows there are 729 rows of three.
        self.assertEqual(way_back(ones_ahead(1, 9)).window(), 2)
        self.refused(TooMany, {"most": 600}, way_back, ones_ahead(2, 9))
        self.assertEqual(way_back(ones_ahead(2, 8)).window(), 3)
        self.refused(TooMany, {"most": 600}, way_back, ones_ahead(3, 8))
        # Three arrows have 729 rows of six, and no way back of six is tried.
        self.assertEqual(way_back(ones_ahead(4, 3)).window(), 5)
        self.refused(TooMany, {"most": 600}, way_back, ones_ahead(5, 3))
        # That is told as soon as it is so, even where six would not be enough.
        self.refused(TooMany, {"most": 600}, way_back, ones_ahead(6, 3))

    def test_six_hundred_rows(self):
        for told, refused in ((ROWS_600_OF_2, False), (ROWS_601_OF_2, True)):
            small = Web(*told)
            great = split(small, 0, [0])
            images = list(range(len(small))) + small.ins(0)
            reader = reader_by(great, small, 1, lambda row: images[row[0]])
            if refused:
                self.refused(TooMany, {"most": 600}, way_back, reader)
            else:
                self.assertEqual(len(way_back(reader)), 600)

    def test_many_rows_do_not_hinder_a_small_window(self):
        web = Web(*ROWS_601_OF_2)
        self.assertEqual(way_back(same(web)), same(web))

    def test_too_many_pairs_come_ahead(self):
        # Neither one to one nor reaching, but with too many pairs to tell.
        arrows = Web(1, [(0, 0)] * 45)
        self.refused(TooMany, {"most": 2000}, way_back, reader_by(arrows, TWO, 1, lambda row: 0))
        # Not one to one: whether it reaches is not asked.
        self.refused(NotBack, {}, way_back, turning(11))

    def test_is_one_then_reaches(self):
        with mock.patch.object(judging, "reaches", side_effect=TooMany(2000)):
            self.refused(TooMany, {"most": 2000}, way_back, same(GOLDEN))
            self.refused(NotBack, {}, way_back, rule_reader(30))

    def test_joined_ways_back(self):
        one = ones_ahead(1)
        other = reader_by(TWO, TWO, 1, lambda row: 1 - row[0])
        code = split_codes(TWO, 0, [0])[0]
        for first, second in ((one, other), (one, code), (other, code), (exchanging(THREE, 0, 1, [2]),) * 2,
                              (exchanging(THREE, 0, 1, [2]), exchanging(THREE, 1, 2, [0]))):
            both = joined(first, second)
            self.assertEqual(way_back(both), joined(way_back(second), way_back(first)))
            self.undoes(both, way_back(both))

    def test_joined_readers(self):
        readers = all_readers(TWO, TWO, 2) + all_readers(TWO, ONE, 1) + all_readers(ONE, TWO, 1)
        for one, other in itertools.product(readers, readers):
            if one.other() == other.web():
                both = joined(one, other)
                if is_one(one) and is_one(other):
                    self.assertIs(is_one(both), True)
                if reaches(one) and reaches(other):
                    self.assertIs(reaches(both), True)

    def test_asking_changes_nothing(self):
        reader = ones_ahead(2)
        twin = ones_ahead(2)
        for call in (twins, is_one, missing, reaches, sets_of, way_back):
            call(reader)
            self.assertEqual((reader, reader.window(), reader.table()), (twin, twin.window(), twin.table()))
        self.assertEqual(way_back(reader), way_back(twin))
        self.assertEqual(Walker(TWO, [], [0]), reader.made(few_walkers(reader.web(), 1)[0]))


def sum_of_squares(reader):
    made = list(reader.least().table().values())
    return sum(made.count(arrow) ** 2 for arrow in set(made))


if __name__ == "__main__":
    unittest.main()
