"""Finer papers: [2] and [17]."""

import copy
import itertools
import unittest

from aheadfold.errors import NotBack, TooMany
from aheadfold.finer import finer, finer_holds
from aheadfold.folds import fold_codes, folds_of, named, named_codes, split, split_codes, total
from aheadfold.judging import way_back
from aheadfold.readers import joined, same
from aheadfold.webs import Web
from helpers import (ROWS_600_OF_6, ROWS_601_OF_2, THREE, TWO, Case, Chance, exchanged, exchanging, loops,
                     ones_ahead, reader_by, rule_reader, slow_down, slow_named, turning, wider, with_thing)

GOLDEN = Web(2, [(0, 0), (0, 1), (1, 0)])
RING = Web(2, [(0, 1), (1, 0)])
# Parallel arrows 0 and 1, which the arrows 2 and 3 may follow.
PARALLEL = Web(2, [(0, 1), (0, 1), (1, 0), (1, 0), (1, 1)])


def slow_images(web, descent, goal):
    """The image of each arrow under a descent, or None where it does not lead to the goal."""
    (rooms, arrows), folds, (last_rooms, last_arrows) = descent
    first = slow_named(web, rooms, arrows)
    down = first and slow_down(first, folds)
    if not down or slow_named(down[0], last_rooms, last_arrows) != goal:
        return None
    return [last_arrows[down[1][arrow]] for arrow in arrows]


def slow_holds(reader, paper):
    web, near, far = paper
    nears = slow_images(web, near, reader.web())
    fars = slow_images(web, far, reader.other())
    if nears is None or fars is None:
        return False
    return all(reader.arrow([nears[arrow] for arrow in row]) == fars[row[0]] for row in web.rows(reader.window()))


def still(web):
    """The descent from a web to itself that changes nothing."""
    names = (list(range(web.rooms())), list(range(len(web))))
    return names, [], copy.deepcopy(names)


def down_to_last(web):
    """The descent from a web to the one at which its folds end."""
    last, folds = total(web)
    return still(web)[0], folds, still(last)[0]


def blocks(many):
    """The web whose rooms are rows of so many of two arrows, each of which tells what comes."""
    numbers = {row: at for at, row in enumerate(itertools.product((0, 1), repeat=many))}
    return Web(len(numbers), [(numbers[row[:-1]], numbers[row[1:]])
                              for row in itertools.product((0, 1), repeat=many + 1)])


def sorts():
    """Readers that have a way back, of many sorts."""
    found = [same(GOLDEN), same(Web(1, [(0, 0)])), exchanging(THREE, 0, 1, [2]), exchanging(PARALLEL, 0, 1, [2]),
             exchanging(PARALLEL, 2, 3, [1, 0]), reader_by(TWO, TWO, 1, lambda row: 1 - row[0])]
    found += [ones_ahead(1), ones_ahead(2), ones_ahead(3), ones_ahead(1, 3), way_back(ones_ahead(2))]
    found += list(split_codes(GOLDEN, 0, [1])) + list(split_codes(THREE, 0, [1]))
    found += [joined(exchanging(THREE, 0, 1, [2]), exchanging(THREE, 1, 2, [0]))]
    found += list(fold_codes(Web(3, [(0, 2), (1, 2), (2, 2)]), 0, 1))
    return found


class Finer(Case):
    def holds(self, reader):
        paper = finer(reader)
        self.assertTrue(slow_holds(reader, paper))
        self.assertIs(finer_holds(reader, paper), True)
        self.is_formed(paper)
        return paper

    def is_formed(self, paper):
        self.assertIs(type(paper), tuple)
        web, *descents = paper
        self.assertIs(type(web), Web)
        self.assertEqual(len(descents), 2)
        for descent in descents:
            first, folds, last = descent
            for names in (first, last):
                self.assertEqual([type(names)] + [type(numbers) for numbers in names], [tuple, list, list])
            self.assertEqual((type(descent), type(folds)), (tuple, list))
            self.assertTrue(all(type(pair) is tuple and pair[0] < pair[1] for pair in folds))

    def test_readers_of_many_sorts(self):
        for reader in sorts():
            self.holds(reader)

    def test_told_wider_than_least(self):
        for reader in (same(GOLDEN), exchanging(PARALLEL, 0, 1, [2]), exchanging(THREE, 0, 1, [2]), ones_ahead(1)):
            for window in range(reader.window() + 1, 4):
                told = wider(reader, window)
                paper = self.holds(told)
                self.assertTrue(slow_holds(reader, paper))

    def test_readers_without_a_way_back(self):
        for reader in (rule_reader(30), reader_by(RING, THREE, 1, lambda row: row[0]),
                       reader_by(TWO, TWO, 1, lambda row: 0), turning(11)):
            self.refused(NotBack, {}, finer, reader)

    def test_refused_as_the_way_back_is(self):
        self.refused(TooMany, {"most": 6}, finer, ones_ahead(6))
        self.refused(TooMany, {"most": 600}, finer, ones_ahead(5, 3))
        self.refused(TooMany, {"most": 2000}, finer, reader_by(Web(1, [(0, 0)] * 45), TWO, 1, lambda row: 0))

    def test_where_it_is_not_refused(self):
        chance = Chance(31)
        done = 0
        for step in range(250):
            web = chance.kin(chance.small(), 2)
            reader = same(web)
            for turn in range(3):
                part = chance.part(reader.other())
                codes = [named_codes(reader.other(), chance.mixed(reader.other().rooms()),
                                     chance.mixed(len(reader.other())))[0]]
                codes += [split_codes(reader.other(), *part)[0]] if part else []
                codes += [fold_codes(reader.other(), *pair)[0] for pair in folds_of(reader.other())]
                try:
                    reader = joined(reader, chance.random.choice(codes))
                except TooMany:
                    break
            done += self.may_be_refused(reader)
        self.assertGreater(done, 120)

    def may_be_refused(self, reader):
        """Whether a paper was told; where it was not, that must have been let."""
        try:
            back = way_back(reader)
        except TooMany as refusal:
            self.refused(TooMany, {"most": refusal.most}, finer, reader)
            return False
        rows = reader.web().many(2 * reader.window() + back.window() - 1)
        try:
            paper = finer(reader)
        except TooMany as refusal:
            self.assertIn(refusal.most, (100, 400, 600))
            self.assertGreater(rows, 100)
            return False
        self.assertTrue(slow_holds(reader, paper))
        self.assertIs(finer_holds(reader, paper), True)
        return True

    def test_great_finer_webs(self):
        # Near the bounds of rooms, arrows and rows, and beyond them.
        for reader in (ones_ahead(4, 3), ones_ahead(3, 4), ones_ahead(3, 5), ones_ahead(3, 7), ones_ahead(1, 20),
                       ones_ahead(1, 21), ones_ahead(2, 7), ones_ahead(2, 8), ones_ahead(5)):
            self.may_be_refused(reader)
        for many in range(3, 12):
            self.may_be_refused(exchanging(Web(1, [(0, 0)] * many), 0, 1, [2]))
        for counts in ([3] + [2] * 59, [3] + [2] * 45, [5, 3] + [4] * 23, [4] * 25, [7, 6, 3, 2] + [1] * 7):
            self.may_be_refused(exchanging(Web(*loops(*counts)), 0, 1, [2]))
        # Just 600 rows of two arrows of the web that is built.
        web = Web(*loops(7, 6, 3, 2, 1, 1, 1, 1, 1, 1))
        self.assertEqual(web.many(3), 600)
        self.holds(exchanging(web, 0, 1, [2]))

    def test_just_a_hundred_rows(self):
        # Loops of their own: as many rows of each length as loops, and w and b are one.
        for many in (99, 100):
            web = Web(many, [(room, room) for room in range(many)])
            self.holds(same(web))
            self.holds(reader_by(web, web, 1, lambda row: many - 1 - row[0]))
        # Both windows are two: 64 rows of five arrows in the first two rooms, and 36 loops.
        web = Web(38, [(0, 0), (0, 0), (0, 1), (1, 1)] + [(room, room) for room in range(2, 38)])
        reader = exchanging(web, 0, 1, [2])
        self.assertEqual((reader.window(), way_back(reader).window(), web.many(5)), (2, 2, 100))
        self.holds(reader)

    def test_asked_again_told_alike_and_anew(self):
        reader = ones_ahead(2)
        paper = finer(reader)
        told = copy.deepcopy(paper)
        for descent in paper[1:]:
            descent[1].clear()
            for names in (descent[0], descent[2]):
                for numbers in names:
                    numbers.clear()
        self.told_as(finer(reader=reader)[1:], told[1:])
        self.assertEqual(finer(reader), told)
        self.assertEqual(reader, ones_ahead(2))


class Holding(Case):
    def judged(self, reader, paper):
        told = copy.deepcopy(paper)
        self.assertIs(finer_holds(reader, paper), slow_holds(reader, paper))
        self.assertEqual(paper, told)
        return slow_holds(reader, paper)

    def bent_descents(self, web, descent):
        """Descents that are a little otherwise."""
        first, folds, last = descent
        found = [(first, folds[:at] + folds[at + 1:], last) for at in range(len(folds))]
        found += [(first, with_thing(folds, at, folds[at][::-1]), last) for at in range(len(folds))]
        found += [(first, folds[:at] + [pair] + folds[at:], last) for at in range(len(folds) + 1)
                  for pair in ((0, 1), (0, 0), (0, web.rooms()), (-1, 0))]
        found.append((first, folds[::-1], last))
        for place in (0, 2):
            for kind in (0, 1):
                for names in self.bent_names(descent[place][kind]):
                    found.append(with_thing(descent, place, with_thing(descent[place], kind, names)))
        return found + [(last, folds, first), (first, [list(pair) for pair in folds], last),
                        (first, tuple(folds), last)]

    def bent_names(self, numbers):
        found = [exchanged(numbers, at - 1, at) for at in range(1, len(numbers))]
        return found + [numbers[1:], numbers + [len(numbers)], numbers[:-1] + numbers[:1], [-1] + numbers[1:],
                        numbers[:-1] + [10 ** 29], [], numbers[::-1]]

    def test_bent_papers(self):
        many = {True: 0, False: 0}
        for reader in sorts():
            paper = finer(reader)
            for place in (1, 2):
                for descent in self.bent_descents(paper[0], paper[place]):
                    many[self.judged(reader, with_thing(paper, place, descent))] += 1
        self.assertGreater(many[True], 20)
        self.assertGreater(many[False], 500)

    def test_descents_exchanged(self):
        for reader in sorts():
            web, near, far = finer(reader)
            self.judged(reader, (web, far, near))
        reader = ones_ahead(2)
        web, near, far = finer(reader)
        self.assertIs(finer_holds(reader, (web, far, near)), False)
        self.assertIs(finer_holds(way_back(reader), (web, far, near)), True)

    def test_both_descents_lead_there_but_not_by_the_reader(self):
        # Both arrows exchanged is another reader than the same one.
        paper = (TWO, still(TWO), still(TWO))
        turned = reader_by(TWO, TWO, 1, lambda row: 1 - row[0])
        self.assertIs(finer_holds(same(TWO), paper), True)
        self.assertIs(finer_holds(turned, paper), False)
        other = (TWO, still(TWO), (([0], [1, 0]), [], ([0], [0, 1])))
        self.assertIs(finer_holds(turned, other), True)
        self.assertIs(finer_holds(same(TWO), other), False)
        last = (TWO, still(TWO), (([0], [0, 1]), [], ([0], [1, 0])))
        self.assertIs(finer_holds(turned, last), True)
        # The reader looks ahead, and what it makes depends on that.
        reader = exchanging(THREE, 0, 1, [2])
        self.assertIs(finer_holds(reader, (THREE, still(THREE), still(THREE))), False)

    def test_another_web(self):
        for reader in (ones_ahead(2), same(GOLDEN), exchanging(THREE, 0, 1, [2])):
            web, near, far = finer(reader)
            for other in (TWO, GOLDEN, THREE, named(web, list(range(web.rooms()))[::-1], list(range(len(web)))),
                          reader.web(), reader.other(), split(web, 0, web.outs(0)[:1])):
                self.judged(reader, (other, near, far))
        web, near, far = finer(same(GOLDEN))
        self.assertIs(finer_holds(same(GOLDEN), (TWO, near, far)), False)

    def test_papers_of_other_readers(self):
        readers = sorts()
        for reader in readers:
            for other in readers:
                self.judged(reader, finer(other))

    def test_lists_and_tuples_are_alike(self):
        reader = ones_ahead(2)
        web, near, far = finer(reader)
        told = [([tuple(names) for names in first], [list(pair) for pair in folds], [tuple(names) for names in last])
                for first, folds, last in (near, far)]
        self.assertIs(finer_holds(reader=reader, paper=(web, *told)), True)

    def test_wider_readers_look_at_their_own_window(self):
        reader = exchanging(PARALLEL, 0, 1, [2])
        paper = finer(reader)
        for window in (3, 4):
            self.judged(wider(reader, window), paper)
            self.judged(wider(reader, window), (paper[0], paper[2], paper[1]))

    def test_too_many_rows(self):
        reader = wider(same(TWO), 6)
        for many, rows in ((1, 128), (2, 256), (3, 512), (4, 1024)):
            web = blocks(many)
            self.assertEqual(web.many(6), rows)
            down = down_to_last(web)
            if rows <= 600:
                self.assertIs(finer_holds(reader, (web, down, down)), True)
            else:
                self.refused(TooMany, {"most": 600}, finer_holds, reader, (web, down, down))
            # A descent that does not lead to its web comes ahead of that.
            wrong = (down[0], [], down[2])
            self.assertIs(finer_holds(reader, (web, wrong, down)), False)
            self.assertIs(finer_holds(reader, (web, down, wrong)), False)

    def test_just_six_hundred_rows(self):
        web = Web(*ROWS_600_OF_6)
        reader = wider(same(web), 6)
        self.assertIs(finer_holds(reader, (web, still(web), still(web))), True)
        # One loop split: more than 600 rows of six arrows, but not of one.
        great = split(web, 0, [0])
        descent = (still(great)[0], [(0, web.rooms())], still(web)[0])
        self.refused(TooMany, {"most": 600}, finer_holds, reader, (great, descent, descent))
        self.assertIs(finer_holds(same(web), (great, descent, descent)), True)
        self.assertIs(finer_holds(same(Web(*ROWS_601_OF_2)), (great, descent, descent)), False)


if __name__ == "__main__":
    unittest.main()
