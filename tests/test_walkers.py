"""Walkers: [2] and [5]."""

import itertools
import unittest

from aheadfold.errors import BadArrow, BadBeat, BadWalk
from aheadfold.walkers import Walker
from aheadfold.webs import Web
from helpers import BELOW, FAR, SMALL, Case, beyond, slow_rounds, slow_rows

GOLDEN = Web(2, [(0, 0), (0, 1), (1, 0)])
FREE = Web(1, [(0, 0), (0, 0), (0, 0)])
LONG = 60


def told_walks(pairs, ahead_most, ring_most):
    """All (ahead, ring) up to these lengths that are walks."""
    aheads = [()] + [row for many in range(1, ahead_most + 1) for row in slow_rows(pairs, many)]
    rings = [ring for many in range(1, ring_most + 1) for ring in slow_rounds(pairs, many)]
    return [
        (ahead, ring) for ahead in aheads for ring in rings
        if not ahead or pairs[ahead[-1]][1] == pairs[ring[0]][0]
    ]


def laid_out(ahead, ring, many):
    """The first arrows of the walk, by going along it."""
    return list(itertools.islice(itertools.chain(ahead, itertools.cycle(ring)), many))


def slow_least(ahead, ring):
    """The shortest ring and the fewest arrows ahead, by trying all from the least up."""
    walk = laid_out(ahead, ring, LONG)
    for period in range(1, len(ring) + 1):
        for start in range(len(ahead) + 1):
            if walk == laid_out(walk[:start], walk[start:start + period], LONG):
                return walk[:start], walk[start:start + period]
    return list(ahead), list(ring)


class WalkersTold(Case):
    def test_shortest_ring_and_fewest_ahead(self):
        for rooms, arrows in SMALL:
            web = Web(rooms, arrows)
            for ahead, ring in told_walks(arrows, 2, 4):
                walker = Walker(web, ahead, ring)
                self.told_as((walker.ahead(), walker.ring()), slow_least(ahead, ring))

    def test_rings_told_again_and_parts_of_the_ring_ahead(self):
        told = (
            ([], [1, 2, 1, 2], [], [1, 2]),
            ([], [1, 2, 1, 2, 1, 2], [], [1, 2]),
            ([], [0, 0, 0], [], [0]),
            ([0, 0, 0], [0, 0], [], [0]),
            ([1, 2, 1, 2], [1, 2], [], [1, 2]),
            ([2], [1, 2], [], [2, 1]),
            ([2, 1, 2], [1, 2, 1, 2, 1, 2], [], [2, 1]),
            ([0, 1, 2], [1, 2], [0], [1, 2]),
            ([2, 0, 0], [0, 1, 2, 0], [2, 0], [0, 0, 1, 2]),
            ([0, 0, 1, 2, 0], [0, 1, 2, 0], [], [0, 0, 1, 2]),
            ([1], [2, 0, 0, 1, 2, 0, 0, 1], [], [1, 2, 0, 0]),
        )
        for ahead, ring, lead, loop in told:
            walker = Walker(GOLDEN, ahead, ring)
            self.told_as((walker.ahead(), walker.ring()), (lead, loop))

    def test_a_ring_that_only_nearly_comes_again(self):
        walker = Walker(FREE, [], [0, 1, 0, 1, 0])
        self.told_as((walker.ahead(), walker.ring()), ([], [0, 1, 0, 1, 0]))
        walker = Walker(FREE, [2, 0], [0, 0, 1, 0, 0, 1])
        self.told_as((walker.ahead(), walker.ring()), ([2, 0], [0, 0, 1]))

    def test_long_lists(self):
        walker = Walker(FREE, [0, 1] * 300, [0, 1] * 300)
        self.told_as((walker.ahead(), walker.ring()), ([], [0, 1]))
        walker = Walker(FREE, [2] * 600, [0] * 599 + [1])
        self.told_as((walker.ahead(), walker.ring()), ([2] * 600, [0] * 599 + [1]))
        self.told_as((walker.arrow(599), walker.arrow(600), walker.arrow(1199)), (2, 0, 1))

    def test_web(self):
        self.assertEqual(Walker(GOLDEN, [0], [1, 2]).web(), GOLDEN)

    def test_arrow_and_first(self):
        for rooms, arrows in SMALL:
            web = Web(rooms, arrows)
            for ahead, ring in told_walks(arrows, 2, 3):
                walker = Walker(web, ahead, ring)
                walk = laid_out(ahead, ring, LONG)
                self.told_as(walker.first(LONG), walk)
                self.told_as([walker.arrow(beat) for beat in range(LONG)], walk)

    def test_arrow_far_away(self):
        walker = Walker(GOLDEN, [0, 0, 1], [2, 0, 1, 2, 1])
        walk = [0, 0] + [1, 2, 0, 1, 2]
        self.told_as(walker.ahead() + walker.ring(), walk)
        for beat in (FAR, FAR + 1, FAR + 2, 10 ** 30 - 1, 123456789012345678901234567890):
            self.told_as(walker.arrow(beat), walk[2 + (beat - 2) % 5])

    def test_first_of_none_and_of_600(self):
        walker = Walker(GOLDEN, [0], [1, 2])
        self.told_as(walker.first(0), [])
        self.told_as(walker.first(1), [0])
        self.told_as(walker.first(600), laid_out([0], [1, 2], 600))

    def test_later(self):
        for rooms, arrows in SMALL:
            web = Web(rooms, arrows)
            for ahead, ring in told_walks(arrows, 2, 3):
                walker = Walker(web, ahead, ring)
                walk = laid_out(ahead, ring, LONG)
                for many in range(8):
                    later = walker.later(many)
                    begin = max(many, len(ahead))
                    self.assertEqual(later.first(LONG - many), walk[many:])
                    self.told_as((later.ahead(), later.ring()),
                                 slow_least(ahead[many:], walk[begin:begin + len(ring)]))
                    self.assertEqual(later.web(), web)
                self.assertEqual(walker, Walker(web, ahead, ring))

    def test_later_far_away(self):
        walker = Walker(GOLDEN, [0, 0], [1, 2, 0, 1, 2])
        for many in (FAR, FAR + 1, 10 ** 30 - 1):
            later = walker.later(many)
            self.told_as(later.ahead(), [])
            self.told_as(later.first(20), [walker.arrow(many + beat) for beat in range(20)])

    def test_behind(self):
        for rooms, arrows in SMALL:
            web = Web(rooms, arrows)
            for ahead, ring in told_walks(arrows, 1, 3):
                walker = Walker(web, ahead, ring)
                for arrow, (begin, end) in enumerate(arrows):
                    if end == arrows[walker.arrow(0)][0]:
                        longer = walker.behind(arrow)
                        self.told_as((longer.ahead(), longer.ring()), slow_least((arrow,) + ahead, ring))
                        self.assertEqual(longer.later(1), walker)
                        self.assertEqual(longer.web(), web)
                    else:
                        self.refused(BadArrow, {}, walker.behind, arrow)
                self.assertEqual(walker, Walker(web, ahead, ring))

    def test_repr(self):
        self.assertEqual(repr(Walker(GOLDEN, [0, 1, 2], [0])), "Walker(0 1 2 | 0)")
        self.assertEqual(repr(Walker(GOLDEN, [], [2, 0, 1])), "Walker(| 2 0 1)")
        self.assertEqual(repr(Walker(FREE, [0, 1], [2])), "Walker(0 1 | 2)")
        self.assertEqual(repr(Walker(FREE, [], [2, 0])), "Walker(| 2 0)")
        self.assertEqual(repr(Walker(FREE, [0, 2], [0, 2, 0, 2])), "Walker(| 0 2)")

    def test_all_by_name(self):
        walker = Walker(ring=[1, 2], ahead=[0], web=GOLDEN)
        self.assertEqual(repr(walker), "Walker(0 | 1 2)")
        self.assertEqual((walker.arrow(beat=1), walker.first(many=2)), (1, [0, 1]))
        self.assertEqual(repr(walker.later(many=2)), "Walker(| 2 1)")
        self.assertEqual(repr(walker.behind(arrow=2)), "Walker(2 0 | 1 2)")


class WalkersEqual(Case):
    def test_equal_just_where_walks_are(self):
        pairs = [(0, 0), (0, 1), (1, 0)]
        told = [(walk, Walker(GOLDEN, *walk), laid_out(*walk, LONG)) for walk in told_walks(pairs, 2, 4)]
        for one, walker, walk in told:
            for other, stranger, steps in told:
                self.assertEqual(walker == stranger, walk == steps)
                self.assertEqual(walker != stranger, walk != steps)

    def test_unequal_where_webs_are(self):
        two = Web(1, [(0, 0), (0, 0)])
        self.assertFalse(Walker(two, [], [0]) == Walker(FREE, [], [0]))
        self.assertTrue(Walker(two, [], [0]) != Walker(FREE, [], [0]))
        again = Web(1, ([0, 0], [0, 0]))
        self.assertTrue(Walker(two, [1], [0]) == Walker(again, [1], [0]))

    def test_equal_to_nothing_of_another_kind(self):
        walker = Walker(GOLDEN, [0], [1, 2])
        self.unlike_strangers(walker)
        for stranger in (GOLDEN, [0, 1, 2], ([0], [1, 2]), "Walker(0 | 1 2)"):
            self.assertFalse(walker == stranger)
            self.assertFalse(stranger == walker)

    def test_lists_and_tuples_are_alike(self):
        walker = Walker(GOLDEN, [0], [1, 2])
        for ahead, ring in (((0,), (1, 2)), ([0], (1, 2)), ((0,), [1, 2])):
            other = Walker(GOLDEN, ahead, ring)
            self.assertEqual(walker, other)
            self.told_as((other.ahead(), other.ring()), ([0], [1, 2]))
            self.told_as(other.first(4), [0, 1, 2, 1])

    def test_handed_lists_changed_behind_the_call(self):
        ahead, ring = [0, 0, 1], [2, 1, 2, 1]
        walker = Walker(GOLDEN, ahead, ring)
        self.assertEqual((ahead, ring), ([0, 0, 1], [2, 1, 2, 1]))
        ahead[0] = 2
        ring.clear()
        self.told_as((walker.ahead(), walker.ring()), ([0, 0], [1, 2]))

    def test_told_lists_changed(self):
        walker = Walker(GOLDEN, [0], [1, 2])
        for told in (walker.ahead(), walker.ring(), walker.first(3)):
            told.append(7)
        self.told_as((walker.ahead(), walker.ring(), walker.first(3)), ([0], [1, 2], [0, 1, 2]))


class WalkersRefused(Case):
    def bad(self, at, ahead, ring):
        self.refused(BadWalk, {"at": at}, Walker, GOLDEN, ahead, ring)
        self.refused(BadWalk, {"at": at}, Walker, GOLDEN, tuple(ahead), tuple(ring))

    def test_what_is_no_arrow(self):
        for arrow in (*BELOW, -3, *beyond(2)):
            self.bad(0, [arrow], [0])
            self.bad(0, [], [arrow])
            self.bad(1, [0], [arrow])
            self.bad(2, [0, 0, arrow], [0])
            self.bad(2, [0, 0, arrow, 2, 2], [0])
            self.bad(4, [0, 1], [2, 0, arrow])
            self.bad(0, [arrow], [])

    def test_what_does_not_follow(self):
        self.bad(1, [1, 1], [2])
        self.bad(1, [0, 2], [0])
        self.bad(1, [0], [2])
        self.bad(2, [0, 1], [1, 2])
        self.bad(2, [], [1, 2, 2])
        self.bad(3, [0, 1], [2, 2])
        self.bad(1, [0, 2, 7], [])
        self.bad(2, [0, 0, 2], [])

    def test_an_empty_ring_and_one_that_does_not_close(self):
        self.bad(0, [], [])
        self.bad(1, [0], [])
        self.bad(3, [0, 1, 2], [])
        self.bad(1, [], [1])
        self.bad(1, [], [2])
        self.bad(2, [], [0, 1])
        self.bad(4, [0, 0], [0, 1])
        self.bad(3, [1, 2], [1])

    def test_bad_beat(self):
        walker = Walker(GOLDEN, [0], [1, 2])
        for beat in BELOW:
            self.refused(BadBeat, {}, walker.arrow, beat)
            self.refused(BadBeat, {}, walker.later, beat)
            self.refused(BadBeat, {}, walker.first, beat)
        for many in beyond(600):
            self.refused(BadBeat, {}, walker.first, many)
        self.assertEqual(walker, Walker(GOLDEN, [0], [1, 2]))

    def test_bad_arrow(self):
        walker = Walker(GOLDEN, [0], [1, 2])
        for arrow in (1, *BELOW, -3, *beyond(2)):
            self.refused(BadArrow, {}, walker.behind, arrow)
        ring = Walker(GOLDEN, [], [2, 1])
        for arrow in (0, 2, *BELOW, -3, *beyond(2)):
            self.refused(BadArrow, {}, ring.behind, arrow)
        self.assertEqual(walker, Walker(GOLDEN, [0], [1, 2]))
        self.assertEqual(ring, Walker(GOLDEN, [], [2, 1]))


if __name__ == "__main__":
    unittest.main()
