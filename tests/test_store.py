"""The store and its deeds: [20], [2], and the interface under aheadfold/store.py."""

import unittest

from aheadfold import errors
from aheadfold.errors import (Apart, BadBeat, BadDeed, BadFold, BadName, BadNaming, BadPart, BadRoom, BadTable, BadText,
                              BadWalk, BadWeb, Full, NoName, NoReader, NotBack, NoWalker, NoWeb, Taken, TooMany, Used,
                              Wide)
from aheadfold.folds import fold, folds_of, named, split
from aheadfold.judging import way_back
from aheadfold.readers import joined, same
from aheadfold.store import Store
from aheadfold.tongue import compiled, reader_text
from aheadfold.walkers import Walker
from aheadfold.webs import Web
from helpers import (BELOW, FAR, SAMPLE, TWO, Case, Chance, beyond, few_walkers, loops, sample, slow_fold, state, things,
                     tupled)

GOLDEN = Web(2, [(0, 0), (0, 1), (1, 0)])
LOOP = [(0, 0)]
BAD_NAMES = ("", "A", "aB", "a1", "1", "a b", " a", "a ", "a_", "-", "abcdefghi", "a" * 600, "a\n", "\n", "~", "\u00e4",
             "\u03b1", "{", "`", "@", "[")
GOOD_NAMES = ("n", "z", "abcdefgh", "web", "many", "none", "undo")
IDENTITY = "look 1\n0 -> 0\n1 -> 1\n2 -> 2"


def looks(window, word):
    """Words of a rule of which the last one is this, and all others fit all."""
    return " ".join(["*"] * (window - 1) + [str(word)])


def shift_text(window, arrows):
    """The reader's text that tells the last arrow of the window."""
    return "\n".join([f"look {window}"] + [f"{looks(window, arrow)} -> {arrow}" for arrow in range(arrows)])


class Deeds(Case):
    def refuses(self, kind, fields, store, deed):
        """The deed is refused with just this, alone and among many, and nothing is changed."""
        before = state(store)
        self.refused(kind, fields, store.do, deed)
        self.refused(errors.Stopped, {"at": 0, "kind": kind.__name__}, store.many, [deed])
        self.assertEqual(state(store), before)

    def refuses_names(self, store, deed):
        """Names that are none, or taken by whatever thing, are refused ahead of all else."""
        for name in BAD_NAMES:
            self.refuses(BadName, {}, store, deed[:1] + (name,) + deed[2:])
        for name, kind in store.names():
            self.refuses(Taken, {}, store, deed[:1] + (name,) + deed[2:])

    def takes_names(self, deed):
        for name in GOOD_NAMES:
            store = sample()
            self.assertIsNone(store.do(deed[:1] + (name,) + deed[2:]))
            self.assertIn(name, dict(store.names()))

    def no_webs(self, store, deed, place):
        """At this place of the deed only names of webs are let."""
        for name in ("zz", "", "A", "ab", "wa", "a b"):
            self.refuses(NoWeb, {"name": name}, store, deed[:place] + (name,) + deed[place + 1:])

    def no_readers(self, store, deed, place):
        for name in ("zz", "", "A", "a", "wa", "a b"):
            self.refuses(NoReader, {"name": name}, store, deed[:place] + (name,) + deed[place + 1:])

    def no_walkers(self, store, deed, place):
        for name in ("zz", "", "A", "a", "ab", "a b"):
            self.refuses(NoWalker, {"name": name}, store, deed[:place] + (name,) + deed[place + 1:])


def full(kind):
    """A store with as many things of a kind as it may have."""
    store = sample()
    deeds = {"web": ("web", 1, LOOP), "reader": ("back", "bc"), "walker": ("make", "bc", "wb")}
    for name in ("x", "xx", "xxx", "xxxx", "xxxxx"):
        if sum(other == kind for own, other in store.names()) < {"web": 6, "reader": 8, "walker": 8}[kind]:
            deed = deeds[kind]
            store.do((deed[0], name) + deed[1:])
    return store


class Webs(Deeds):
    def test_a_web(self):
        store = Store()
        self.assertIsNone(store.do(("web", "a", 2, [[0, 1], (1, 0)])))
        self.assertEqual(store.web("a"), Web(2, [(0, 1), (1, 0)]))
        self.told_as(store.names(), [("a", "web")])
        self.takes_names(("web", "", 1, LOOP))

    def test_refusals_in_order(self):
        store = full("web")
        self.refuses_names(store, ("web", "", 0, []))
        for rooms in BELOW + (0, 101, FAR):
            self.refuses(BadWeb, {"at": -1}, store, ("web", "n", rooms, [(9, 9)]))
        self.refuses(BadWeb, {"at": 1}, store, ("web", "n", 11, [(0, 0), (0, 11), (0, 0)]))
        self.refuses(BadWeb, {"at": 0}, store, ("web", "n", 1, [(0,)]))
        self.refuses(BadWeb, {"at": 400}, store, ("web", "n", 1, LOOP * 401))
        self.refuses(BadWeb, {"at": 11}, store, ("web", "n", 12, [(room, 0) for room in range(11)]))
        for rooms, arrows in (loops(*[1] * 11), loops(25), loops(*[1] * 100), loops(400), loops(*[3] * 10)):
            self.refuses(Wide, {}, store, ("web", "n", rooms, arrows))
        self.refuses(Full, {}, store, ("web", "n", 1, LOOP))

    def test_just_not_too_wide(self):
        for counts in ([1] * 10, [24], [3] * 4 + [2] * 6):
            store = Store()
            store.do(("web", "a", *loops(*counts)))
            self.assertEqual(store.web("a"), Web(*loops(*counts)))

    def test_six_webs_and_room_again(self):
        store = Store()
        for name in "abcdef":
            store.do(("web", name, 1, LOOP))
        self.refuses(Full, {}, store, ("web", "g", 1, LOOP))
        store.do(("drop", "c"))
        store.do(("web", "g", 1, LOOP))
        self.assertEqual([name for name, kind in store.names()], list("abdefg"))
        self.refuses(Full, {}, store, ("web", "c", 1, LOOP))


class Walkers(Deeds):
    def test_a_walker(self):
        store = sample(("walker", "n", "a", (0, 0), [0, 0]))
        self.assertEqual(store.walker("n"), Walker(GOLDEN, [], [0]))
        self.told_as((store.walker("n").ahead(), store.walker("n").ring()), ([], [0]))
        self.assertEqual(store.goes_in("n"), "a")
        self.takes_names(("walker", "", "a", [], [0]))

    def test_refusals_in_order(self):
        store = full("walker")
        self.refuses_names(store, ("walker", "", "zz", [9], []))
        self.no_webs(store, ("walker", "n", "", [9], []), 2)
        for ahead, ring, at in (([], [], 0), ([0], [], 1), ([0, 2], [2], 1), ([3], [0], 0), ([-1], [0], 0),
                                ([], [1], 1), ([0], [1, 2, 1], 4), ([0], [FAR], 1), ([1], [0], 1), ([], [0, 1], 2)):
            self.refuses(BadWalk, {"at": at}, store, ("walker", "n", "a", ahead, ring))
            self.refuses(BadWalk, {"at": at}, store, ("walker", "n", "a", tuple(ahead), tuple(ring)))
        self.refuses(Full, {}, store, ("walker", "n", "a", [], [0]))

    def test_eight_walkers_and_room_again(self):
        store = sample()
        for name in ("d", "e", "f", "g", "h"):
            store.do(("walker", name, "a", [], [0]))
        self.refuses(Full, {}, store, ("walker", "i", "a", [], [0]))
        store.do(("drop", "wb"))
        store.do(("walker", "i", "b", [], [0]))
        self.refuses(Full, {}, store, ("walker", "wb", "a", [], [0]))

    def test_it_goes_on(self):
        store = sample()
        walker = store.walker("wa")
        for many in (0, 1, 3, 999999, FAR):
            before = things(store)
            self.assertIsNone(store.do(("go", "wa", many)))
            walker = walker.later(many)
            self.assertEqual(store.walker("wa"), walker)
            self.assertEqual(store.goes_in("wa"), "a")
            after = things(store)
            self.assertEqual({**after, "wa": 0}, {**before, "wa": 0})

    def test_going_is_refused(self):
        store = sample()
        self.no_walkers(store, ("go", "", -1), 1)
        for many in BELOW:
            self.refuses(BadBeat, {}, store, ("go", "wa", many))


class Readers(Deeds):
    def test_a_reader_is_kept_in_least_form(self):
        text = "look 3\n0 * * -> 0\n1 * * -> 1\n2 * * -> 2"
        store = sample(("reader", "n", "a", "a", text))
        self.assertEqual(store.reader("n"), same(GOLDEN))
        self.assertEqual(repr(store.reader("n")), "Reader(1 ahead, 3 rows)")
        self.told_as(store.ends("n"), ("a", "a"))
        self.told_as(store.ends("ab"), ("a", "b"))
        self.assertEqual(store.reader("ba"), compiled(SAMPLE[4][4], TWO, GOLDEN))
        self.takes_names(("reader", "", "a", "a", IDENTITY))

    def test_refusals_in_order(self):
        store = full("reader")
        self.refuses_names(store, ("reader", "", "zz", "zz", "x"))
        self.no_webs(store, ("reader", "n", "", "zz", "look 7"), 2)
        self.no_webs(store, ("reader", "n", "a", "", "look 7"), 3)
        self.refuses(NoWeb, {"name": "yy"}, store, ("reader", "n", "yy", "zz", "look 7"))
        self.refuses(TooMany, {"most": 6}, store, ("reader", "n", "a", "a", "look 7\nx"))
        for at, text in ((0, ""), (0, "look 0"), (1, "look 1"), (1, "look 1\nx\n* -> 1"), (2, "look 1\n* -> 1\n"),
                         (2, "look 1\n0 -> 1"), (1, "look 1\n* -> 3")):
            self.refuses(BadText, {"at": at}, store, ("reader", "n", "a", "a", text))
        self.refuses(BadTable, {"row": (0, 0)}, store, ("reader", "n", "a", "a", "look 1\n* -> 1"))
        self.refuses(Full, {}, store, ("reader", "n", "a", "a", IDENTITY))

    def test_too_many_rows(self):
        store = sample(("web", "n", *loops(8)))
        self.refuses(TooMany, {"most": 600}, store, ("reader", "r", "n", "b", "look 4\nx"))
        store.do(("reader", "r", "n", "b", f"look 3\n{looks(3, 0)} -> 1\n{looks(3, '*')} -> 0"))
        self.assertEqual(len(store.reader("r")), 512)

    def test_eight_readers_and_room_again(self):
        store = sample()
        for name in ("d", "e", "f", "g"):
            store.do(("reader", name, "a", "a", IDENTITY))
        self.refuses(Full, {}, store, ("reader", "i", "a", "a", IDENTITY))
        store.do(("drop", "bc"))
        store.do(("reader", "i", "a", "a", IDENTITY))
        self.refuses(Full, {}, store, ("reader", "bc", "a", "a", IDENTITY))


class Joins(Deeds):
    def test_a_join(self):
        store = sample(("join", "n", "ab", "ba"), ("join", "m", "ba", "ab"), ("join", "o", "ab", "bc"))
        one, other = store.reader("ab"), store.reader("ba")
        self.assertEqual(store.reader("n"), joined(one, other))
        self.assertEqual(store.reader("m"), joined(other, one))
        self.assertEqual([store.ends(name) for name in "nmo"], [("a", "a"), ("b", "b"), ("a", "c")])
        self.assertEqual(store.reader("n").window(), joined(one, other).least().window())
        self.takes_names(("join", "", "aa", "aa"))

    def test_refusals_in_order(self):
        store = full("reader")
        self.refuses_names(store, ("join", "", "zz", "zz"))
        self.no_readers(store, ("join", "n", "", "zz"), 2)
        self.no_readers(store, ("join", "n", "ab", ""), 3)
        self.refuses(NoReader, {"name": "yy"}, store, ("join", "n", "yy", "zz"))
        for one, other in (("ab", "ab"), ("ba", "ba"), ("aa", "ba"), ("ab", "aa"), ("bc", "bc"), ("bc", "ba")):
            self.refuses(Apart, {}, store, ("join", "n", one, other))
        self.refuses(Full, {}, store, ("join", "n", "ab", "ba"))

    def test_equal_webs_of_two_names_are_apart(self):
        store = sample()
        self.assertEqual(store.web("b"), store.web("c"))
        joined(store.reader("bc"), store.reader("bc"))
        self.refuses(Apart, {}, store, ("join", "n", "bc", "bc"))

    def test_too_many(self):
        store = sample(("reader", "four", "b", "b", shift_text(4, 2)), ("reader", "tc", "b", "c", shift_text(3, 2)),
                       ("web", "w", *loops(8)), ("reader", "ww", "w", "w", shift_text(3, 8)))
        self.refuses(TooMany, {"most": 6}, store, ("join", "n", "four", "four"))
        self.refuses(TooMany, {"most": 600}, store, ("join", "n", "ww", "ww"))
        store.do(("join", "n", "four", "tc"))
        self.assertEqual(store.reader("n").window(), 6)
        # Full comes last.
        self.refuses(TooMany, {"most": 6}, store, ("join", "m", "four", "four"))

    def test_too_many_comes_ahead_of_full(self):
        store = sample(("reader", "d", "b", "b", shift_text(4, 2)))
        for name in ("e", "f", "g"):
            store.do(("reader", name, "a", "a", IDENTITY))
        self.refuses(TooMany, {"most": 6}, store, ("join", "n", "d", "d"))
        self.refuses(Full, {}, store, ("join", "n", "aa", "aa"))


class Backs(Deeds):
    def test_a_way_back(self):
        store = sample(("back", "n", "bc"))
        self.assertEqual(store.reader("n"), way_back(store.reader("bc")))
        self.assertEqual(store.ends("n"), ("c", "b"))
        self.takes_names(("back", "", "bc"))

    def test_refusals_in_order(self):
        store = full("reader")
        self.refuses_names(store, ("back", "", "zz"))
        self.no_readers(store, ("back", "n", ""), 2)
        for name in ("aa", "ba", "ab"):
            self.refuses(NotBack, {}, store, ("back", "n", name))
        self.refuses(Full, {}, store, ("back", "n", "bc"))

    def test_too_many(self):
        # From each of the 24 arrows to one: more pairs than are looked at.
        store = sample(("web", "n", *loops(24)), ("reader", "r", "n", "b", f"look 2\n{looks(2, 0)} -> 1\n* * -> 0"))
        self.refuses(TooMany, {"most": 2000}, store, ("back", "m", "r"))


class Makes(Deeds):
    def test_what_is_made(self):
        store = sample(("make", "n", "ab", "wa"), ("make", "m", "ba", "wb"), ("make", "o", "bc", "n"))
        self.assertEqual(store.walker("n"), store.reader("ab").made(store.walker("wa")))
        self.assertEqual(store.walker("m"), store.reader("ba").made(store.walker("wb")))
        self.assertEqual(store.walker("o"), store.reader("bc").made(store.walker("n")))
        self.assertEqual([store.goes_in(name) for name in "nmo"], ["b", "a", "c"])
        self.takes_names(("make", "", "ab", "wa"))

    def test_refusals_in_order(self):
        store = full("walker")
        self.refuses_names(store, ("make", "", "zz", "zz"))
        self.no_readers(store, ("make", "n", "", "zz"), 2)
        self.no_walkers(store, ("make", "n", "ab", ""), 3)
        # The webs b and c are equal, and still two.
        for reader, walker in (("ab", "wb"), ("ba", "wa"), ("bc", "wc"), ("ba", "wc"), ("aa", "wb")):
            self.refuses(Apart, {}, store, ("make", "n", reader, walker))
        self.refuses(Full, {}, store, ("make", "n", "ab", "wa"))


class Drops(Deeds):
    def test_drops(self):
        store = sample()
        for name in ("ab", "wa", "aa", "ba", "a", "bc", "wb", "b", "wc", "c"):
            self.assertIsNone(store.do(("drop", name)))
            self.assertNotIn(name, dict(store.names()))
        self.assertEqual((len(store), store.names()), (0, []))

    def test_refusals(self):
        store = sample()
        for name in ("zz", "", "A", "a b"):
            self.refuses(NoName, {"name": name}, store, ("drop", name))
        for drops, by in (("", ("aa", "ab", "bc")), ("aa ab", ("ba", "ba", "bc")), ("aa ab ba", ("wa", "bc", "bc")),
                          ("aa ab ba bc", ("wa", "wb", "wc"))):
            store = sample(*[("drop", name) for name in drops.split()])
            for web, user in zip("abc", by):
                self.refuses(Used, {"by": user}, store, ("drop", web))

    def test_the_first_name_is_that_of_a_reader_or_a_walker(self):
        store = sample(("walker", "aaa", "b", [], [0]), ("reader", "zz", "b", "b", "look 1\n* -> 0"))
        self.refuses(Used, {"by": "aaa"}, store, ("drop", "b"))
        store = Store()
        for deed in (("web", "m", 1, LOOP), ("walker", "z", "m", [], [0]), ("reader", "n", "m", "m", "look 1\n* -> 0")):
            store.do(deed)
        self.refuses(Used, {"by": "n"}, store, ("drop", "m"))


class NoDeeds(Deeds):
    def test_what_is_no_deed(self):
        store = sample()
        for deed in SAMPLE + (("join", "n", "ab", "ba"), ("back", "n", "bc"), ("make", "n", "ab", "wa"),
                              ("split", "a", 0, [0]), ("fold", "a", 0, 1), ("name", "a", [0, 1], [0, 1, 2]),
                              ("go", "wa", 1), ("drop", "wa")):
            for bad in (list(deed), deed[:-1], deed + (0,), deed[:1], deed[1:], deed + ((),), (deed,), [deed]):
                self.refuses(BadDeed, {}, store, bad)
        for bad in ((), [], ("many", []), ("many", [("drop", "wa")]), ("undo",), ("redo",), ("",), ("Web",
                    "n", 1, LOOP),
                    ("webs", "n", 1, LOOP), ("show", "a"), ("names",), ("twin",), ("do", ("drop", "wa")), (0, "wa"),
                    (("drop",), "wa"), ("drop ", "wa"), ("web",) * 40):
            self.refuses(BadDeed, {}, store, bad)


def image_of(walker, images, web):
    """The walker of a web whose arrows are the images of another one's."""
    return Walker(web, [images[arrow] for arrow in walker.ahead()], [images[arrow] for arrow in walker.ring()])


class Turns(Deeds):
    def check(self, up, down, name, images):
        """The one store is the other, with a web that these images of arrows lead down."""
        small = down.web(name)

        def lowered(walker, home):
            return image_of(walker, images, small) if home == name else walker

        self.assertEqual(up.names(), down.names())
        for other, kind in up.names():
            if kind == "web" and other != name:
                self.assertEqual(up.web(other), down.web(other))
            if kind == "walker":
                self.assertEqual(up.goes_in(other), down.goes_in(other))
                self.assertEqual(lowered(up.walker(other), up.goes_in(other)), down.walker(other))
            if kind == "reader":
                self.check_reader(up, down, other, lowered)

    def check_reader(self, up, down, name, lowered):
        high, low = up.reader(name), down.reader(name)
        one, other = up.ends(name)
        self.assertEqual(down.ends(name), (one, other))
        for store, reader in ((up, high), (down, low)):
            self.assertEqual((reader.web(), reader.other()), (store.web(one), store.web(other)))
            self.assertEqual(reader.window(), reader.least().window())
        for walker in few_walkers(high.web(), 2):
            self.assertEqual(lowered(high.made(walker), other), low.made(lowered(walker, one)))

    def turn(self, store, deed):
        """Do a split, a fold or a naming, and check all that goes along."""
        old = store.twin()
        word, name, first, second = deed
        web = old.web(name)
        self.assertIsNone(store.do(deed))
        if word == "name":
            self.assertEqual(store.web(name), named(web, first, second))
            self.check(old, store, name, second)
        elif word == "fold":
            self.assertEqual(store.web(name), fold(web, first, second))
            self.check(old, store, name, slow_fold(web, first, second)[1])
        else:
            self.assertEqual(store.web(name), split(web, first, second))
            self.check(store, old, name, slow_fold(store.web(name), first, web.rooms())[1])

    def test_what_goes_along(self):
        for name, deed in (("a", ("split", "a", 0, [1])), ("b", ("split", "b", 0, (0,))), ("c", ("split", "c", 0, [1])),
                           ("a", ("name", "a", [1, 0], (2, 0, 1))), ("b", ("name", "b", [0], [1, 0]))):
            self.turn(sample(), deed)

    def test_split_and_folded_again(self):
        for web, room, part in (("a", 0, [0]), ("a", 0, [1]), ("b", 0, [1]), ("c", 0, [0])):
            store = sample()
            before = things(store)
            self.turn(store, ("split", web, room, part))
            self.assertNotEqual(things(store), before)
            self.turn(store, ("fold", web, room, store.web(web).rooms() - 1))
            self.assertEqual(things(store), before)

    def test_named_and_named_again(self):
        store = sample()
        before = things(store)
        self.turn(store, ("name", "a", [1, 0], [1, 2, 0]))
        self.turn(store, ("name", "a", [1, 0], [2, 0, 1]))
        self.assertEqual(things(store), before)

    def test_a_reader_as_told(self):
        store = sample(("split", "a", 0, [1]))
        # The arrows 3 and 4 lead to the new room, behind 0 and 2; the arrow 1 begins there.
        self.assertEqual(store.web("a"), Web(3, [(0, 0), (2, 1), (1, 0), (0, 2), (1, 2)]))
        self.assertEqual(reader_text(store.reader("ab")), "look 1\n0 -> 0\n1 -> 1\n2 -> 0\n3 -> 0\n4 -> 0")
        self.assertEqual((store.walker("wa").ahead(), store.walker("wa").ring()), ([0], [3, 1, 4, 1, 2]))
        self.assertEqual(store.reader("aa").table(), {row: row[1] for row in store.web("a").rows(2)})

    def test_turns_that_no_one_has_chosen(self):
        chance = Chance(20)
        done = {"split": 0, "fold": 0, "name": 0}
        for seed in range(12):
            store = sample()
            for step in range(8):
                deed = self.some_turn(chance, store)
                try:
                    self.turn(store, deed)
                    done[deed[0]] += 1
                except (TooMany, Wide):
                    pass
        self.assertGreater(min(done.values()), 10)

    def some_turn(self, chance, store):
        name = chance.random.choice("abc")
        web = store.web(name)
        pairs = folds_of(web)
        part = chance.part(web)
        word = chance.random.choice(["name"] + ["fold"] * 2 * bool(pairs) + ["split"] * 2 * bool(part))
        if word == "name":
            return word, name, chance.mixed(web.rooms()), chance.mixed(len(web))
        return (word, name, *(chance.random.choice(pairs) if word == "fold" else part))


class TurnRefusals(Deeds):
    def test_splits_in_order(self):
        store = sample(("web", "w", *loops(2, *[1] * 9)), ("web", "v", *loops(13)))
        self.no_webs(store, ("split", "", 9, []), 1)
        for room in BELOW + beyond(1):
            self.refuses(BadRoom, {}, store, ("split", "a", room, []))
        for part in ([], [0, 1], [2], [0, 2], [0, 0], [-1], [FAR], (1, 1), ()):
            self.refuses(BadPart, {}, store, ("split", "a", 0, part))
        self.refuses(BadPart, {}, store, ("split", "a", 1, [2]))
        self.refuses(BadPart, {}, store, ("split", "w", 1, [2]))
        self.refuses(Wide, {}, store, ("split", "w", 0, [0]))
        self.refuses(Wide, {}, store, ("split", "v", 0, [0]))

    def test_splits_that_are_just_not_too_wide(self):
        store = sample(("web", "w", *loops(2, *[1] * 8)), ("web", "v", *loops(12)))
        store.do(("split", "w", 0, [0]))
        store.do(("split", "v", 0, [0]))
        self.assertEqual((store.web("w").rooms(), len(store.web("v"))), (10, 24))
        self.refuses(Wide, {}, store, ("split", "v", 0, [1]))

    def test_wide_comes_ahead_of_too_many(self):
        store = sample(("web", "w", *loops(2, *[1] * 9)), ("reader", "ww", "w", "w", shift_text(6, 11)))
        self.refuses(Wide, {}, store, ("split", "w", 0, [0]))

    def test_folds_in_order(self):
        store = sample()
        self.no_webs(store, ("fold", "", 9, 9), 1)
        for room in BELOW + beyond(1):
            self.refuses(BadRoom, {}, store, ("fold", "a", room, 0))
            self.refuses(BadRoom, {}, store, ("fold", "a", 1, room))
        for one, other in ((0, 0), (0, 1), (1, 0), (1, 1)):
            self.refuses(BadFold, {}, store, ("fold", "a", one, other))

    def test_namings_in_order(self):
        store = sample()
        self.no_webs(store, ("name", "", [0], [0]), 1)
        for rooms, arrows in (([0], [0, 1, 2]), ([0, 1], [0, 1]), ([0, 0], [0, 1, 2]), ([1, 2], [0, 1, 2]),
                              ([0, 1, 2], [0, 1, 2]), ([0, 1], [0, 1, 1]), ([0, 1], [0, 1, 3]), ([-1, 0], [0, 1, 2]),
                              ([], []), ([0, 1], [0, 1, 2, 3]), ([0, FAR], [0, 1, 2])):
            self.refuses(BadNaming, {}, store, ("name", "a", rooms, arrows))
            self.refuses(BadNaming, {}, store, ("name", "a", tuple(rooms), tuple(arrows)))

    def test_a_reader_from_a_folded_web_that_looks_too_far(self):
        for window in (5, 6):
            store = sample(("web", "w", 1, LOOP * 2), ("split", "w", 0, [0]))
            text = f"look {window}\n{looks(window, 'e0')} -> 1\n{looks(window, '*')} -> 0"
            store.do(("reader", "far", "w", "b", text))
            self.assertEqual(store.reader("far").window(), window)
            if window == 6:
                self.refuses(TooMany, {"most": 6}, store, ("fold", "w", 0, 1))
            else:
                store.do(("fold", "w", 0, 1))
                self.assertEqual(repr(store.reader("far")), "Reader(6 ahead, 64 rows)")

    def test_a_reader_to_a_split_web_that_looks_too_far(self):
        store = sample(("reader", "far", "c", "b", shift_text(6, 2)))
        self.refuses(TooMany, {"most": 6}, store, ("split", "b", 0, [0]))
        # From a split web it looks no farther: the room to which the fifth arrow leads tells the sixth.
        store.do(("split", "c", 0, [0]))
        self.assertEqual(store.reader("far").window(), 5)

    def test_a_reader_with_too_many_rows(self):
        seven = shift_text(3, 7)
        store = sample(("web", "w", *loops(7)), ("web", "v", *loops(7)), ("reader", "wv", "w", "v", seven))
        # 343 rows of three arrows: twice as many from the split web, seven times with one arrow more.
        self.refuses(TooMany, {"most": 600}, store, ("split", "w", 0, [0]))
        self.refuses(TooMany, {"most": 600}, store, ("split", "v", 0, [0]))
        store.do(("name", "v", [0], [6, 5, 4, 3, 2, 1, 0]))
        self.assertEqual(store.reader("wv").arrow((0, 0, 2)), 4)

    def test_a_folded_web_with_too_many_rows(self):
        store = sample(("web", "w", *loops(5)), ("split", "w", 0, [0]))
        store.do(("reader", "r", "w", "b", f"look 3\n{looks(3, 'e0')} -> 0\n{looks(3, '*')} -> 1"))
        self.assertEqual(store.reader("r").window(), 3)
        self.refuses(TooMany, {"most": 600}, store, ("fold", "w", 0, 1))

    def test_the_first_reader_by_its_name_is_refused(self):
        for one, other, most in (("r", "s", 6), ("s", "r", 600)):
            store = sample(("web", "w", *loops(7)), ("reader", one, "b", "w", shift_text(6, 2)),
                           ("reader", other, "w", "w", shift_text(3, 7)))
            self.refuses(TooMany, {"most": most}, store, ("split", "w", 0, [0]))

    def test_the_code_back_is_joined_first(self):
        # 576 rows of six arrows, and 640 in the split web; joined behind, the window would be seven.
        counts = [2] * 9
        store = sample(("web", "w", *loops(*counts)), ("reader", "r", "w", "w", shift_text(6, 18)))
        self.assertEqual(len(store.reader("r")), 576)
        self.refuses(TooMany, {"most": 600}, store, ("split", "w", 0, [0]))
        # With fewer rows it is the code there behind that looks too far.
        store = sample(("web", "w", *loops(2, 2)), ("reader", "r", "w", "w", shift_text(6, 4)))
        self.refuses(TooMany, {"most": 6}, store, ("split", "w", 0, [0]))
        # Here the code back in front makes the window less, so that the code there can be joined.
        store = sample(("web", "w", *loops(2)), ("reader", "r", "w", "w", shift_text(6, 2)))
        store.do(("split", "w", 0, [0]))
        self.assertEqual(store.reader("r").table(), {row: row[5] for row in store.web("w").rows(6)})

    def test_other_readers_are_not_in_the_way(self):
        store = sample(("web", "w", *loops(2)), ("reader", "r", "b", "c", shift_text(6, 2)))
        store.do(("split", "w", 0, [0]))
        store.do(("fold", "w", 0, 1))
        self.assertEqual(store.web("w"), Web(*loops(2)))


class Told(Case):
    def test_names(self):
        self.told_as(sample().names(), [
            ("a", "web"), ("aa", "reader"), ("ab", "reader"), ("b", "web"), ("ba", "reader"), ("bc", "reader"),
            ("c", "web"), ("wa", "walker"), ("wb", "walker"), ("wc", "walker")])
        self.told_as(Store().names(), [])

    def test_len_and_repr(self):
        self.assertEqual((len(Store()), repr(Store())), (0, "Store(0 webs, 0 readers, 0 walkers)"))
        self.assertEqual((len(sample()), repr(sample())), (10, "Store(3 webs, 4 readers, 3 walkers)"))
        store = Store()
        store.do(("web", "a", 1, LOOP))
        self.assertEqual(repr(store), "Store(1 webs, 0 readers, 0 walkers)")

    def test_no_such_names(self):
        store = sample()
        for name in ("zz", "", "A", "ab", "wa"):
            self.refused(NoWeb, {"name": name}, store.web, name)
        for name in ("zz", "", "A", "a", "wa"):
            self.refused(NoReader, {"name": name}, store.reader, name)
            self.refused(NoReader, {"name": name}, store.ends, name)
        for name in ("zz", "", "A", "a", "ab"):
            self.refused(NoWalker, {"name": name}, store.walker, name)
            self.refused(NoWalker, {"name": name}, store.goes_in, name)

    def test_what_is_told_stays(self):
        store = sample()
        names, web, reader, walker = store.names(), store.web("a"), store.reader("aa"), store.walker("wa")
        before = things(store)
        for deed in (("split", "a", 0, [1]), ("name", "a", [2, 1, 0], [4, 3, 2, 1, 0]), ("go", "wa", 3),
                     ("drop", "ab")):
            store.do(deed)
        self.assertEqual(names, sample().names())
        self.assertEqual((web, reader, walker), (GOLDEN, sample().reader("aa"), sample().walker("wa")))
        self.assertEqual(repr(walker), repr(sample().walker("wa")))
        self.assertEqual(things(sample()), before)

    def test_told_lists_are_new_ones(self):
        store = sample()
        before = state(store)
        store.names().clear()
        store.names()[0] = None
        store.web("a").arrows().clear()
        store.reader("ab").table().clear()
        store.walker("wa").ring().clear()
        self.assertEqual(state(store), before)

    def test_what_is_handed_in_is_neither_changed_nor_kept(self):
        arrows = [[0, 0], [0, 1], [1, 0]]
        part, rooms, numbers, ahead, ring = [1], [1, 0, 2], [1, 0, 2, 3, 4], [0], [1, 2]
        deeds = [("web", "a", 2, arrows), ("walker", "w", "a", ahead, ring), ("split", "a", 0, part),
                 ("name", "a", rooms, numbers)]
        told = repr(deeds)
        store, other, several = Store(), Store(), Store()
        for deed in deeds:
            store.do(deed)
            other.do(tupled(deed))
        several.many(deeds)
        self.assertEqual(repr(deeds), told)
        before = things(store)
        self.assertEqual((things(other), things(several)), (before, before))
        arrows[0][1] = 1
        for told in (arrows, part, rooms, numbers, ahead, ring, deeds):
            told.clear()
        self.assertEqual((things(store), things(several)), (before, before))
        while store.steps()[0]:
            store.undo()
        several.undo()
        while store.steps()[1]:
            store.redo()
        several.redo()
        self.assertEqual((things(store), things(several)), (before, before))

    def test_refusals_stand_under_their_bases(self):
        store = sample()
        for deed, base in ((("drop", "zz"), LookupError), (("web", "A", 1, LOOP), ValueError), ((), ValueError),
                           (("go", "zz", 0), errors.Lost), (("go", "wa", -1), errors.FoldError),
                           (("drop", "a"), errors.FoldError)):
            with self.assertRaises(base):
                store.do(deed)


if __name__ == "__main__":
    unittest.main()
