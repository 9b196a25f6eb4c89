"""Namings, alike webs with their papers, and readers between them: [2] and [18]."""

import copy
import itertools
import unittest

from aheadfold.alike import MOST_TREE, alike, alike_holds, between, naming
from aheadfold.errors import TooMany, Wide
from aheadfold.folds import fold, folds_of, named, split, total
from aheadfold.judging import way_back
from aheadfold.readers import joined, same
from aheadfold.webs import Web
from helpers import (THREE, TWO, Case, Chance, exchanged, few_walkers, loops, slow_down, slow_named, with_thing)

GOLDEN = Web(2, [(0, 0), (0, 1), (1, 0)])
ONE = Web(1, [(0, 0)])


def rings(*lengths):
    """The web with a ring of rooms of each length."""
    arrows = []
    for length in lengths:
        at = len(arrows)
        arrows += [(at + step, at + (step + 1) % length) for step in range(length)]
    return Web(len(arrows), arrows)


def is_naming(one, other, rooms):
    return all(one.leading(near, far) == other.leading(rooms[near], rooms[far])
               for near in range(one.rooms()) for far in range(one.rooms()))


def slow_naming(one, other):
    """The first naming, by trying all."""
    if one.rooms() != other.rooms():
        return None
    for rooms in itertools.permutations(range(one.rooms())):
        if is_naming(one, other, rooms):
            return list(rooms)
    return None


def slow_apart(one, other, names, near, far):
    if near != far and names[near] == names[far]:
        return True
    return one.leading(near, far) != other.leading(names[near], names[far])


def slow_tree(one, other, names, tree):
    """Whether a tree of the told form holds, word for word."""
    if not isinstance(tree, tuple) or not tree:
        return False
    word, *things = tree
    if word == "many":
        return not things and one.rooms() != other.rooms()
    if len(things) != 2 or not isinstance(things[0], int):
        return False
    if word == "apart":
        return things[0] in names and things[1] in names and slow_apart(one, other, names, *things)
    room, trees = things
    if word != "tries" or room in names or room not in range(one.rooms()) or not isinstance(trees, tuple):
        return False
    return len(trees) == other.rooms() and all(
        slow_tree(one, other, {**names, room: name}, below) for name, below in enumerate(trees))


def slow_holds(one, other, paper):
    if paper[0] == "alike" and len(paper) == 6:
        for goal, folds, names in ((one, *paper[2:4]), (other, *paper[4:6])):
            down = slow_down(paper[1], folds)
            if down is None or slow_named(down[0], *names) != goal:
                return False
        return True
    if paper[0] == "unlike" and len(paper) == 4:
        downs = [slow_down(one, paper[1]), slow_down(other, paper[2])]
        if None in downs or any(folds_of(down[0]) for down in downs):
            return False
        return slow_tree(downs[0][0], downs[1][0], {}, paper[3])
    return False


def trees_in(tree):
    """All trees in a tree, itself too, each with the way to it."""
    found = [((), tree)]
    if tree[0] == "tries":
        for at, below in enumerate(tree[2]):
            found += [((at,) + way, deeper) for way, deeper in trees_in(below)]
    return found


def with_tree(tree, way, fresh):
    """The tree with another one at the end of a way."""
    if not way:
        return fresh
    return with_thing(tree, 2, with_thing(tree[2], way[0], with_tree(tree[2][way[0]], way[1:], fresh)))


def some_pairs(count, seed):
    """Pairs of webs: of one kin, of one kin but with an arrow led elsewhere, and others."""
    chance = Chance(seed)
    found = []
    for step in range(count):
        base = chance.small()
        one = chance.kin(base, step % 7)
        other = chance.kin(base, (step + 3) % 7) if step % 3 else chance.kin(chance.small(), step % 5)
        found.append((one, chance.bent(other) if step % 3 == 2 else other))
    return found


class Naming(Case):
    def test_by_hand(self):
        self.told_as(naming(GOLDEN, GOLDEN), [0, 1])
        self.told_as(naming(one=GOLDEN, other=Web(2, [(0, 1), (1, 1), (1, 0)])), [1, 0])
        self.told_as(naming(rings(3), rings(3)), [0, 1, 2])
        self.assertIsNone(naming(GOLDEN, TWO))
        self.assertIsNone(naming(TWO, THREE))
        self.assertIsNone(naming(THREE, TWO))
        self.assertIsNone(naming(rings(2, 2), rings(4)))
        self.assertEqual(MOST_TREE, 8000)

    def test_the_first_of_several(self):
        self.told_as(naming(rings(1, 1, 1), rings(1, 1, 1)), [0, 1, 2])
        self.told_as(naming(rings(2, 1), rings(1, 2)), [1, 2, 0])
        self.told_as(naming(rings(1, 2), rings(2, 1)), [2, 0, 1])
        self.told_as(naming(Web(3, [(0, 2), (2, 1), (1, 0)]), rings(3)), [0, 2, 1])

    def test_counts_of_arrows_not_only_whether_there_are_some(self):
        one = Web(2, [(0, 1), (0, 1), (1, 0)])
        self.told_as(naming(one, Web(2, [(0, 1), (1, 0), (1, 0)])), [1, 0])
        self.assertIsNone(naming(one, Web(2, [(0, 1), (1, 0), (1, 1)])))
        self.assertIsNone(naming(Web(2, [(0, 0), (0, 1), (1, 0), (1, 1)]), Web(2, [(0, 1), (0, 1), (1, 0), (1, 0)])))

    def test_the_slow_way(self):
        chance = Chance(41)
        many = 0
        for step in range(300):
            web = chance.web(1 + step % 6, 2 + step % 6 + step % 5)
            other = chance.renamed(web) if step % 2 else chance.bent(chance.renamed(web))
            slow = slow_naming(web, other)
            self.assertEqual(naming(web, other), slow)
            many += slow is None
        self.assertGreater(many, 50)
        self.assertLess(many, 150)

    def test_rooms_that_look_alike(self):
        # Each room has two ways in and two out, in both webs.
        one = Web(6, [(room, (room + step) % 6) for room in range(6) for step in (1, 2)])
        other = Web(6, [(room, (room + step) % 6) for room in range(6) for step in (1, 3)])
        self.assertIsNone(naming(one, other))
        self.assertEqual(naming(one, named(one, [5, 3, 1, 0, 2, 4], list(range(12)))),
                         slow_naming(one, named(one, [5, 3, 1, 0, 2, 4], list(range(12)))))

    def test_great_webs(self):
        chance = Chance(42)
        for web in (chance.web(100, 400), rings(100), rings(*([10] * 10)), rings(*([1] * 100)), chance.web(30, 60)):
            other = chance.renamed(web)
            try:
                self.assertTrue(is_naming(web, other, naming(web, other)))
            except TooMany as refusal:
                self.assertEqual(refusal.most, 8000)
        self.assertIsNone(naming(rings(100), rings(99, 1)))
        self.assertIsNone(naming(rings(100), Web(1, [(0, 0)] * 100)))

    def test_only_with_more_than_six_rooms_it_may_be_refused(self):
        for one, other in ((rings(*([4] * 7)), rings(*([4] * 5 + [3, 5]))), (rings(4, 3), rings(7)),
                           (rings(1, 1, 1, 1, 3), rings(3, 2, 2))):
            try:
                self.assertIsNone(naming(one, other))
            except TooMany as refusal:
                self.assertEqual(refusal.most, 8000)

    def test_told_anew(self):
        rooms = naming(rings(3), rings(3))
        rooms.clear()
        self.told_as(naming(rings(3), rings(3)), [0, 1, 2])


class Alike(Case):
    def judged(self, one, other):
        paper = alike(one, other)
        self.assertTrue(slow_holds(one, other, paper))
        self.assertIs(alike_holds(one, other, paper), True)
        self.is_formed(paper)
        return paper

    def is_formed(self, paper):
        self.assertIs(type(paper), tuple)
        if paper[0] == "alike":
            word, web, folds, names, more, others = paper
            self.assertIs(type(web), Web)
            for told in (names, others):
                self.assertEqual([type(told)] + [type(numbers) for numbers in told], [tuple, list, list])
        else:
            word, folds, more, tree = paper
            self.assertIs(type(tree), tuple)
            self.assertLessEqual(len(trees_in(tree)), MOST_TREE)
        for row in (folds, more):
            self.assertIs(type(row), list)
            self.assertTrue(all(type(pair) is tuple for pair in row))

    def test_by_hand(self):
        self.assertEqual(self.judged(GOLDEN, GOLDEN)[0], "alike")
        self.assertEqual(self.judged(GOLDEN, split(GOLDEN, 0, [1]))[0], "alike")
        self.assertEqual(self.judged(split(TWO, 0, [1]), split(TWO, 0, [0]))[0], "alike")
        self.assertEqual(self.judged(GOLDEN, TWO)[0], "unlike")
        self.assertEqual(alike(one=GOLDEN, other=TWO)[3], ("many",))
        self.assertEqual(self.judged(TWO, THREE)[0], "unlike")
        self.assertEqual(self.judged(rings(2, 2), rings(4))[0], "unlike")

    def test_just_where_the_last_webs_are_the_same_but_for_names(self):
        many = {"alike": 0, "unlike": 0}
        trees = 0
        for one, other in some_pairs(400, 43):
            paper = self.judged(one, other)
            lasts = total(one)[0], total(other)[0]
            if max(last.rooms() for last in lasts) <= 5:
                self.assertEqual(paper[0], "unlike" if slow_naming(*lasts) is None else "alike")
            many[paper[0]] += 1
            trees += paper[0] == "unlike" and paper[3] != ("many",)
        self.assertGreater(min(many.values()), 100)
        self.assertGreater(trees, 40)

    def test_trees_end_as_soon_as_rooms_are_apart(self):
        for one, other in some_pairs(200, 44) + [(rings(4, 3), rings(7)), (rings(5, 5), rings(4, 6))]:
            paper = alike(one, other)
            if paper[0] == "unlike":
                self.ends_soon(total(one)[0], total(other)[0], {}, paper[3])

    def ends_soon(self, one, other, names, tree):
        self.assertIn(tree[0], ("many", "apart", "tries"))
        self.assertEqual(tree[0] == "many", one.rooms() != other.rooms())
        if tree[0] == "tries":
            for name, below in enumerate(tree[2]):
                more = {**names, tree[1]: name}
                apart = [near for near in more if slow_apart(one, other, more, near, tree[1])
                         or slow_apart(one, other, more, tree[1], near)]
                self.assertEqual(below[0] == "apart", bool(apart))
                self.ends_soon(one, other, more, below)

    def test_both_ways_of_itself_and_of_the_third(self):
        chance = Chance(45)
        for step in range(60):
            base = chance.small()
            webs = [chance.kin(base, 5), chance.kin(base, 5), chance.kin(base, 5)]
            for one, other in itertools.product(webs, webs):
                self.assertEqual(self.judged(one, other)[0], "alike")
        for one, other in some_pairs(60, 46):
            self.assertEqual(self.judged(one, other)[0], self.judged(other, one)[0])

    def test_ten_rooms_and_twenty_four_arrows(self):
        most = split_often(THREE, 10, 24)
        self.assertTrue(most.rooms() == 10 or len(most) == 24)
        chance = Chance(47)
        for other in (THREE, most, chance.renamed(most), chance.kin(most, 9), TWO, chance.bent(most)):
            self.judged(most, other)
            self.judged(other, most)

    def test_wide(self):
        eleven, ten = Web(*loops(*([1] * 11))), Web(*loops(*([1] * 10)))
        many, enough = Web(1, [(0, 0)] * 25), Web(1, [(0, 0)] * 24)
        for call in (alike, between):
            for wide in (eleven, many, Web(11, [(room, 0) for room in range(11)] + [(0, 0)] * 20)):
                for narrow in (ONE, ten, enough, wide):
                    self.refused(Wide, {}, call, wide, narrow)
                    self.refused(Wide, {}, call, narrow, wide)
            for narrow in (ten, enough):
                call(narrow, narrow)
                call(narrow, ONE)
                call(ONE, narrow)
        self.judged(ten, ten)
        self.judged(enough, enough)
        self.judged(enough, ten)

    def test_papers_of_great_webs_are_judged_too(self):
        web = Web(11, [(room, (room + 1) % 11) for room in range(11)])
        names = (list(range(11)), list(range(11)))
        self.assertIs(alike_holds(web, web, ("alike", web, [], names, [], names)), True)
        self.assertIs(alike_holds(web, ONE, ("alike", web, [], names, [], names)), False)
        self.assertIs(alike_holds(web, ONE, ("unlike", [], [], ("many",))), True)
        hundred = Web(*loops(*([1] * 100)))
        self.assertIs(alike_holds(hundred, ONE, ("unlike", [], [], ("many",))), True)
        tree = ("tries", 0, (("apart", 0, 0),) * 100)
        self.assertIs(alike_holds(rings(100), hundred, ("unlike", [], [], tree)), True)
        deep = ("apart", 99, 99)
        for room in range(99, -1, -1):
            deep = ("tries", room, (deep,) + (("apart", room, room),) * 99)
        self.assertIs(alike_holds(hundred, hundred, ("unlike", [], [], deep)), False)

    def test_more_than_six_rooms(self):
        loud = [(rings(*([1] * 10)), rings(*([1] * 8 + [2]))), (rings(*([1] * 8 + [2])), rings(*([1] * 10))),
                (rings(5, 5), rings(10)), (rings(3, 3, 3), rings(9)), (rings(2, 2, 2, 2, 2), rings(4, 2, 2, 2)),
                (rings(*([1] * 7)), rings(*([1] * 5 + [2])))]
        told = 0
        for one, other in loud:
            self.assertGreater(total(one)[0].rooms(), 6)
            try:
                self.assertEqual(self.judged(one, other)[0], "unlike")
                told += 1
            except TooMany as refusal:
                self.assertEqual(refusal.most, 8000)
        self.assertGreater(told, 2)

    def test_six_rooms_are_never_refused(self):
        for one, other in ((rings(*([1] * 6)), rings(*([1] * 4 + [2]))), (rings(2, 2, 2), rings(4, 2)),
                           (rings(3, 3), rings(6)), (rings(*([1] * 6)), rings(6)),
                           (Web(6, [(room, (room + step) % 6) for room in range(6) for step in (1, 2)]),
                            Web(6, [(room, (room + step) % 6) for room in range(6) for step in (1, 3)]))):
            self.assertEqual(total(one)[0].rooms(), 6)
            self.assertEqual(self.judged(one, other)[0], "unlike")
            self.assertEqual(self.judged(other, one)[0], "unlike")

    def test_told_anew_and_alike(self):
        for one, other in ((split(TWO, 0, [1]), split(GOLDEN, 0, [1])), (split(TWO, 0, [1]), split(TWO, 0, [0])),
                           (rings(2, 2), rings(4))):
            paper = alike(one, other)
            told = copy.deepcopy(paper)
            for thing in paper[1:]:
                for part in (thing,) if isinstance(thing, list) else thing if isinstance(thing, tuple) else ():
                    if isinstance(part, list):
                        part.clear()
            self.assertEqual(alike(one, other), told)


def split_often(web, rooms, arrows):
    """A web split as long as it has at most so many rooms and arrows."""
    chance = Chance(48)
    for step in range(200):
        great = chance.splitted(web)
        if great.rooms() <= rooms and len(great) <= arrows:
            web = great
    return web


class Holding(Case):
    def judged(self, one, other, paper):
        told = copy.deepcopy(paper)
        slow = slow_holds(one, other, paper)
        self.assertIs(alike_holds(one, other, paper), slow)
        self.assertEqual(paper, told)
        return slow

    def bent_rows(self, folds):
        found = [folds[:at] + folds[at + 1:] for at in range(len(folds))]
        found += [folds[:at] + [pair] + folds[at:] for at in range(len(folds) + 1)
                  for pair in ((0, 1), (0, 0), (1, 0), (0, 99), (-1, 0))]
        found += [with_thing(folds, at, folds[at][::-1]) for at in range(len(folds))]
        return found + [[], folds[::-1], [list(pair) for pair in folds]]

    def bent_names(self, names):
        found = []
        for kind in (0, 1):
            numbers = names[kind]
            for told in [numbers[::-1], numbers[1:], numbers + [len(numbers)], [], [-1] + numbers[1:],
                         numbers[:-1] + numbers[:1]] + [exchanged(numbers, at - 1, at)
                                                        for at in range(1, len(numbers))]:
                found.append(with_thing(names, kind, told))
        return found + [names[::-1]]

    def test_bent_papers_that_they_are(self):
        many = {True: 0, False: 0}
        chance = Chance(49)
        for step in range(25):
            base = chance.small()
            one, other = chance.kin(base, 4), chance.kin(base, 4)
            paper = alike(one, other)
            found = [with_thing(paper, at, row) for at in (2, 4) for row in self.bent_rows(paper[at])]
            found += [with_thing(paper, at, names) for at in (3, 5) for names in self.bent_names(paper[at])]
            found += [with_thing(paper, 1, web) for web in (one, other, TWO, chance.renamed(paper[1]),
                                                            chance.folded(paper[1]))]
            found.append(paper[:2] + paper[4:] + paper[2:4])
            for bent in found:
                many[self.judged(one, other, bent)] += 1
        self.assertGreater(many[True], 30)
        self.assertGreater(many[False], 300)

    def test_bent_papers_that_they_are_not(self):
        many = {True: 0, False: 0}
        pairs = [(one, other) for one, other in some_pairs(150, 50) if alike(one, other)[0] == "unlike"]
        for one, other in pairs[:40] + [(rings(2, 2), rings(4)), (rings(4), rings(2, 2))]:
            paper = alike(one, other)
            found = [with_thing(paper, at, row) for at in (1, 2) for row in self.bent_rows(paper[at])]
            found += [with_thing(paper, 3, tree) for tree in self.bent_trees(paper[3])]
            found.append((paper[0], paper[2], paper[1], paper[3]))
            for bent in found:
                many[self.judged(one, other, bent)] += 1
        self.assertGreater(many[True], 30)
        self.assertGreater(many[False], 300)

    def bent_trees(self, tree):
        found = list(STRANGE_TREES)
        found += [("tries", room, (tree,) * many) for room in range(-1, 7) for many in range(1, 6)]
        inner = trees_in(tree)
        for way, below in inner[:40]:
            found += [with_tree(tree, way, strange) for strange in STRANGE_TREES]
            found.append(with_tree(tree, way, inner[-1][1]))
            found += [with_tree(tree, way, (word,) + below[1:]) for word in ("", "try", "many", "tries", "apart", 0)]
            if below[0] == "apart":
                found += [with_tree(tree, way, ("apart", below[2], below[1])),
                          with_tree(tree, way, ("apart", below[1], below[1])),
                          with_tree(tree, way, ("apart", below[1], below[1] + 1)),
                          with_tree(tree, way, ("apart", below[1] - 1, below[2])),
                          with_tree(tree, way, below + (0,)), with_tree(tree, way, below[:2])]
            if below[0] == "tries":
                found += [with_tree(tree, way, ("tries", below[1], below[2][:-1])),
                          with_tree(tree, way, ("tries", below[1], below[2] + below[2][:1])),
                          with_tree(tree, way, ("tries", below[1], below[2][::-1])),
                          with_tree(tree, way, ("tries", below[1] + 1, below[2])),
                          with_tree(tree, way, ("tries", below[1] - 1, below[2])),
                          with_tree(tree, way, below[:2]), with_tree(tree, way, below + (0,)),
                          with_tree(tree, way, ("tries", below[1], (below,) * len(below[2])))]
        return found

    def test_many(self):
        self.assertIs(alike_holds(GOLDEN, TWO, ("unlike", [], [], ("many",))), True)
        self.assertIs(alike_holds(TWO, THREE, ("unlike", [], [], ("many",))), False)
        # Where the counts of rooms are unlike, other trees may hold, too.
        self.assertIs(alike_holds(TWO, GOLDEN, ("unlike", [], [], ("tries", 0, (("many",), ("many",))))), True)
        self.assertIs(alike_holds(TWO, GOLDEN, ("unlike", [], [], ("tries", 0, (("apart", 0, 0),) * 2))), True)
        self.assertIs(alike_holds(ONE, GOLDEN, ("unlike", [], [], ("tries", 0, (("apart", 0, 0),) * 2))), False)

    def test_folds_until_nothing_folds(self):
        one = split(TWO, 0, [1])
        self.assertIs(alike_holds(one, GOLDEN, ("unlike", [(0, 1)], [], ("many",))), True)
        self.assertIs(alike_holds(one, THREE, ("unlike", [], [], ("many",))), False)
        self.assertIs(alike_holds(THREE, one, ("unlike", [], [], ("many",))), False)
        self.assertIs(alike_holds(GOLDEN, one, ("unlike", [], [(0, 1)], ("many",))), True)
        self.assertIs(alike_holds(GOLDEN, one, ("unlike", [], [(1, 0)], ("many",))), False)
        self.assertIs(alike_holds(GOLDEN, one, ("unlike", [], [(0, 2)], ("many",))), False)

    def test_other_words_and_counts(self):
        for one, other in ((GOLDEN, split(GOLDEN, 0, [1])), (GOLDEN, TWO)):
            paper = alike(one, other)
            for word in ("alike", "unlike", "Alike", "", "many", "tries", "apart", "like"):
                if word != paper[0]:
                    self.assertIs(alike_holds(one, other, (word,) + paper[1:]), False)
                self.assertIs(alike_holds(one, other, (word,)), False)
            for at in range(1, len(paper)):
                self.assertIs(alike_holds(one, other, paper[:at]), False)
                self.assertIs(alike_holds(one, other, paper + paper[-at:]), False)
            self.assertIs(alike_holds(one=one, other=other, paper=paper), True)

    def test_papers_of_other_webs(self):
        pairs = some_pairs(14, 51)
        papers = [alike(one, other) for one, other in pairs]
        for one, other in pairs:
            for paper in papers:
                self.judged(one, other, paper)

    def test_lists_and_tuples_are_alike(self):
        one, other = split(split(TWO, 0, [1]), 0, [0]), split(TWO, 0, [0])
        word, web, folds, names, more, others = alike(one, other)
        told = (word, web, tuple([list(pair) for pair in folds]), [tuple(numbers) for numbers in names],
                [list(pair) for pair in more], tuple([tuple(numbers) for numbers in others]))
        self.assertIs(alike_holds(one, other, told), True)
        word, folds, more, tree = alike(one, GOLDEN)
        self.assertIs(alike_holds(one, GOLDEN, (word, tuple([list(pair) for pair in folds]), tuple(more), tree)), True)


STRANGE_TREES = ((), ("many",), ("many", 0), ("apart", 0, 0), ("apart", 0, 1), ("apart", 1, 0), ("apart", "0", 0),
                 ("apart", 0, "0"), ("apart", (0,), 0), ("apart", 0, ()), ("apart", -1, 0), ("apart", 0, -1),
                 ("apart", 99, 0), ("apart", 0, 10 ** 29), ("apart",), ("apart", 0), ("tries",), ("tries", 0),
                 ("tries", 0, ()), ("tries", 0, "many"), ("tries", 0, 0), ("tries", "0", (("many",),)),
                 ("tries", (), (("many",),)), ("tries", 99, (("many",),)), ("tries", -1, (("many",),)),
                 ("tries", 0, (("many",), ("many",))), ("tries", 0, (1, 2)), ("tries", 0, ("many", "apart")),
                 (0,), (0, 1, 2), (("many",),), ((), (), ()), ("Many",), ("none", 0, 0), ("", "", ""))


class Between(Case):
    def test_by_hand(self):
        self.assertEqual(between(GOLDEN, GOLDEN), same(GOLDEN))
        self.assertIsNone(between(one=GOLDEN, other=TWO))
        reader = between(split(TWO, 0, [1]), TWO)
        self.assertEqual((reader.web(), reader.other(), reader.window()), (split(TWO, 0, [1]), TWO, 1))
        reader = between(TWO, split(TWO, 0, [1]))
        self.assertEqual((reader.web(), reader.other(), reader.window()), (TWO, split(TWO, 0, [1]), 2))

    def test_walkers(self):
        one, other = split(GOLDEN, 0, [1]), split(GOLDEN, 0, [0])
        reader = between(one, other)
        back = way_back(reader)
        for walker in few_walkers(one):
            self.assertEqual(back.made(reader.made(walker)), walker)
        for walker in few_walkers(other):
            self.assertEqual(reader.made(back.made(walker)), walker)

    def test_none_just_where_they_are_not_alike(self):
        backs = 0
        for one, other in some_pairs(300, 52):
            reader = self.reader_between(one, other)
            if reader == "refused":
                continue
            self.assertEqual(reader is None, alike(one, other)[0] == "unlike")
            if reader is not None:
                self.assertEqual((reader.web(), reader.other()), (one, other))
                self.assertEqual(reader.window(), reader.least().window())
                backs += self.has_a_way_back(reader)
        self.assertGreater(backs, 100)

    def reader_between(self, one, other):
        """The reader, None, or "refused" where that is let."""
        folds = len(total(other)[1])
        try:
            return between(one, other)
        except TooMany as refusal:
            if refusal.most == 6:
                self.assertGreater(folds, 5)
            else:
                self.assertEqual(refusal.most, 600)
                self.assertGreater(one.many(folds + 1), 600)
            return "refused"

    def has_a_way_back(self, reader):
        try:
            back = way_back(reader)
            self.assertEqual(joined(reader, back), same(reader.web()))
            self.assertEqual(joined(back, reader), same(reader.other()))
            return True
        except TooMany:
            return False

    def test_five_folds_and_more(self):
        # A room that tells what comes of as many arrows as there are folds: one room, two arrows.
        web = TWO
        for folds in range(1, 8):
            web = split(web, web.rooms() - 1, web.outs(web.rooms() - 1)[:1]) if folds == 1 else next_split(web)
            self.assertEqual(len(total(web)[1]), folds)
            if folds <= 5:
                self.assertEqual((between(TWO, web).other(), between(TWO, web).web()), (web, TWO))
                self.assertTrue(self.has_a_way_back(between(TWO, web)))
            else:
                self.reader_between(TWO, web)

    def test_just_six_hundred_rows(self):
        # 24 arrows in all, and their rows of two.
        for counts in ((20, 4), (23, 1), (5, 19), (12, 12)):
            web = Web(*loops(*counts))
            self.assertLessEqual(web.many(2), 600)
            self.assertEqual(between(web, web), same(web))
        for letters in (2, 3, 4, 5, 6, 7, 8):
            web = Web(1, [(0, 0)] * letters)
            great = split(web, 0, [0])
            while great.rooms() <= 10 and len(great) <= 24:
                reader = self.reader_between(web, great)
                self.assertTrue(reader == "refused" or reader.other() == great)
                great = next_split(great)

    def test_asked_again_told_alike(self):
        for one, other in some_pairs(20, 53):
            first, again = self.reader_between(one, other), self.reader_between(one, other)
            self.assertEqual(first, again)

    def test_as_alike_is(self):
        chance = Chance(54)
        for step in range(30):
            web = chance.web(7 + step % 4, 20)
            other = chance.renamed(web)
            if folds_of(web):
                web = fold(web, *folds_of(web)[0])
            reader = self.reader_between(web, other)
            self.assertTrue(reader == "refused" or reader.other() == other)


def next_split(web):
    """The web with one room more, split where that makes the fewest arrows more."""
    rooms = [room for room in range(web.rooms()) if len(web.outs(room)) > 1]
    room = min(rooms, key=lambda number: len(web.ins(number)))
    return split(web, room, web.outs(room)[:1])


if __name__ == "__main__":
    unittest.main()
