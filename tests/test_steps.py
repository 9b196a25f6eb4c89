"""Steps of a store: many deeds as one, what is taken back and done again, twins: [21] and [2]."""

import unittest

from aheadfold.errors import FoldError, Lost, NothingLeft, Stopped
from aheadfold.pages import page, store_of
from aheadfold.store import Store
from helpers import SAMPLE, Case, Chance, sample, state, things, tupled

LOOP = [(0, 0)]
# A row of deeds of each kind, all of which can be done behind SAMPLE.
MORE = (
    ("split", "a", 0, [1]), ("join", "n", "ab", "bc"), ("back", "m", "bc"), ("make", "x", "bc", "wb"),
    ("name", "b", [0], [1, 0]), ("go", "wa", 2), ("fold", "a", 0, 2), ("drop", "n"), ("web", "d", 1, [[0, 0]]),
    ("reader", "dd", "d", "d", "look 2\n* * -> 0"), ("walker", "wd", "d", [0], [0]), ("drop", "wd"),
)


class Many(Case):
    def test_all_as_one_step(self):
        store, other = Store(), Store()
        self.assertIsNone(store.many(list(SAMPLE + MORE)))
        for deed in SAMPLE + MORE:
            self.assertIsNone(other.do(deed))
        self.assertEqual(things(store), things(other))
        self.assertEqual(store, other)
        self.assertEqual((store.steps(), other.steps()), ((1, 0), (len(SAMPLE + MORE), 0)))
        self.told_as(store.undo(), ("many", tupled(SAMPLE + MORE)))
        self.assertEqual((len(store), store.steps()), (0, (0, 1)))
        self.told_as(store.redo(), ("many", tupled(SAMPLE + MORE)))
        self.assertEqual(things(store), things(other))

    def test_by_name_and_as_a_tuple(self):
        store = Store()
        store.many(deeds=SAMPLE)
        self.assertEqual(store, sample())

    def test_no_deeds_are_one_step(self):
        store = sample(("go", "wa", 1))
        store.undo()
        self.assertIsNone(store.many([]))
        self.assertEqual((store.steps(), things(store)), ((11, 0), things(sample())))
        self.told_as(store.undo(), ("many", ()))
        self.told_as(store.redo(), ("many", ()))
        self.assertEqual(things(store), things(sample()))

    def test_one_deed(self):
        store = Store()
        store.many([("web", "a", 1, LOOP)])
        self.told_as(store.undo(), ("many", (("web", "a", 1, ((0, 0),)),)))

    def test_none_where_one_is_refused(self):
        store = sample(("go", "wa", 1))
        store.undo()
        before = state(store)
        good = [("go", "wa", 1), ("web", "n", 1, LOOP), ("split", "b", 0, [0]), ("drop", "wb")]
        for deed, kind in ((("web", "n", 1, LOOP), "Taken"), (("web", "N", 1, LOOP), "BadName"),
                           (("web", "m", 0, LOOP), "BadWeb"), (("web", "m", 11, [(k, k) for k in range(11)]), "Wide"),
                           (("go", "wb", 1), "NoWalker"), (("go", "wa", -1), "BadBeat"), (("drop", "b"), "Used"),
                           (("drop", "wb"), "NoName"), (("split", "b", 2, [0]), "BadRoom"), (("back", "m",
                           "ab"), "NotBack"),
                           (("split", "b", 0, [0]), "BadPart"), (("fold", "a", 0, 1), "BadFold"),
                           (("name", "b", [0], [0]), "BadNaming"), (("join", "m", "ab", "ab"), "Apart"),
                           (("make", "m", "zz", "wa"), "NoReader"), (("walker", "m", "zz", [], []), "NoWeb"),
                           (("walker", "m", "a", [], []), "BadWalk"), (("reader", "m", "a", "a", ""), "BadText"),
                           (("reader", "m", "a", "a", "look 7"), "TooMany"),
                           (("reader", "m", "a", "a", "look 1\n* -> 1"), "BadTable"),
                           (("many", []), "BadDeed"), (("many", [("go", "wa", 1)]), "BadDeed"), ((), "BadDeed"),
                           (["go", "wa", 1], "BadDeed"), (("go", "wa"), "BadDeed"), (("undo",), "BadDeed")):
            for behind in ([], [("web", "", 0, [])]):
                self.refused(Stopped, {"at": 4, "kind": kind}, store.many, good + [deed] + behind)
                self.assertEqual(state(store), before)
        self.refused(Stopped, {"at": 0, "kind": "NoName"}, store.many, [("drop", "zz"), ("drop", "zz")])
        webs = [("web", name, 1, LOOP) for name in ("d", "e", "f", "g")]
        self.refused(Stopped, {"at": 3, "kind": "Full"}, store.many, webs)
        # What was taken back can still be done again.
        self.assertEqual(state(store), before)
        self.told_as(store.redo(), ("go", "wa", 1))

    def test_a_deed_may_use_what_one_ahead_of_it_made(self):
        store = Store()
        store.many([("web", "a", 1, LOOP), ("walker", "b", "a", [], [0]), ("drop", "b"), ("drop", "a"),
                    ("web", "b", 1, LOOP)])
        self.assertEqual(store.names(), [("b", "web")])


class Steps(Case):
    def test_the_deed_is_told_with_tuples_for_lists(self):
        store = Store()
        for deed in SAMPLE + MORE:
            store.do(deed)
            self.told_as(store.undo(), tupled(deed))
            self.told_as(store.redo(), tupled(deed))

    def test_the_deed_is_told_as_it_was_done(self):
        arrows, deeds = [[0, 0], [0, 0]], [("web", "b", 1, [[0, 0]])]
        store = Store()
        store.do(("web", "a", 1, arrows))
        store.many(deeds)
        arrows[1].clear()
        arrows.clear()
        deeds[0][3][0].clear()
        deeds.clear()
        self.told_as(store.undo(), ("many", (("web", "b", 1, ((0, 0),)),)))
        self.told_as(store.undo(), ("web", "a", 1, ((0, 0), (0, 0))))
        self.told_as(store.redo(), ("web", "a", 1, ((0, 0), (0, 0))))
        store.redo()
        self.assertEqual([len(store.web(name)) for name in "ab"], [2, 1])

    def test_nothing_left(self):
        store = Store()
        for call in (store.undo, store.redo):
            self.refused(NothingLeft, {}, call)
        store.do(("web", "a", 1, LOOP))
        self.refused(NothingLeft, {}, store.redo)
        store.undo()
        self.refused(NothingLeft, {}, store.undo)
        store.redo()
        self.refused(NothingLeft, {}, store.redo)
        self.assertEqual((store.steps(), len(store)), ((1, 0), 1))
        with self.assertRaises(IndexError):
            store.redo()

    def test_each_state_on_the_way(self):
        store = Store()
        states, deeds = [things(store)], []
        for deed in SAMPLE + MORE + (None,):
            if deed is None:
                store.many([("go", "wa", 1), ("drop", "wc")])
            else:
                store.do(deed)
            states.append(things(store))
        whole = len(states) - 1
        for turn in range(2):
            for left in range(whole - 1, -1, -1):
                deeds.append(store.undo())
                self.assertEqual((things(store), store.steps()), (states[left], (left, whole - left)))
            for left in range(1, whole + 1):
                self.assertEqual(store.redo(), deeds.pop())
                self.assertEqual((things(store), store.steps()), (states[left], (left, whole - left)))
        self.told_as(store.steps(), (whole, 0))

    def test_a_step_lets_go_what_was_taken_back(self):
        for call, thing in ((Store.do, ("go", "wa", 1)), (Store.many, []), (Store.many, [("drop", "wa")])):
            store = sample()
            store.undo()
            store.undo()
            self.assertEqual(store.steps(), (8, 2))
            call(store, thing)
            self.assertEqual(store.steps(), (9, 0))
            self.refused(NothingLeft, {}, store.redo)

    def test_what_is_refused_lets_nothing_go(self):
        store = sample()
        store.undo()
        before = state(store)
        for call, thing in ((store.do, ("drop", "zz")), (store.do, ("many", [])), (store.do, []), (store.do, ("drop",
                            "a")),
                            (store.many, [("go", "wa", 1), ()]), (store.web, "zz"), (store.goes_in, "a")):
            with self.assertRaises((FoldError, Lost)):
                call(thing)
            self.assertEqual(state(store), before)
        self.told_as(store.redo(), SAMPLE[-1][:3] + ((1,), (0,)))
        self.assertEqual(things(store), things(sample()))

    def test_asking_changes_nothing(self):
        store = sample()
        store.undo()
        before = state(store)
        store.names(), store.web("a"), store.reader("ab"), store.walker("wa"), store.ends("ab"), store.goes_in("wa")
        store.steps(), store.twin(), len(store), repr(store), store == sample()
        self.assertEqual(state(store), before)

    def test_there_and_back_as_no_one_has_chosen(self):
        chance = Chance(21)
        for seed in range(5):
            store, past, future = Store(), [], []
            for step in range(150):
                word = chance.random.choice(("do", "do", "undo", "redo", "many"))
                before = things(store)
                if word in ("do", "many"):
                    deeds = chance.random.sample(SAMPLE + MORE, chance.random.randrange(4) if word == "many" else 1)
                    try:
                        store.many(deeds) if word == "many" else store.do(deeds[0])
                        past, future = past + [before], []
                    except (FoldError, Lost):
                        self.assertEqual(things(store), before)
                elif word == "undo" and past:
                    store.undo()
                    future.append(before)
                    self.assertEqual(things(store), past.pop())
                elif word == "redo" and future:
                    store.redo()
                    past.append(before)
                    self.assertEqual(things(store), future.pop())
                self.assertEqual(store.steps(), (len(past), len(future)))


class Twins(Case):
    def test_a_twin_has_all_of_it(self):
        store = sample(*MORE)
        for step in range(5):
            store.undo()
        twin = store.twin()
        self.assertIs(type(twin), Store)
        self.assertEqual((state(twin), twin), (state(store), store))
        while store.steps()[1]:
            self.assertEqual(twin.redo(), store.redo())
            self.assertEqual(state(twin), state(store))
        while store.steps()[0]:
            self.assertEqual(twin.undo(), store.undo())
            self.assertEqual(state(twin), state(store))

    def test_neither_changes_the_other(self):
        def changes(one, other):
            for call, things_in in ((one.do, [("go", "wa", 1)]), (one.undo, []), (one.undo, []), (one.redo, []),
                                    (one.undo, []), (one.undo, []), (one.many, [[("drop", "bc")]]),
                                    (one.do, [("split", "a", 0, [0])])):
                before = state(other)
                call(*things_in)
                self.assertEqual(state(other), before)
        store = sample()
        store.undo()
        changes(store.twin(), store)
        changes(store, store.twin())
        twin = store.twin()
        store.undo()
        self.assertEqual(twin.steps()[0], store.steps()[0] + 1)

    def test_equal_stores(self):
        self.assertTrue(Store() == Store())
        self.assertTrue(sample() == sample())
        self.assertFalse(sample() != sample())
        # Other steps, and another order, to the same things.
        self.assertTrue(sample(("go", "wa", 1), ("drop", "wc"), ("drop", "wa"), *SAMPLE[-3::2]) == sample())
        store = Store()
        store.many(SAMPLE)
        self.assertTrue(store == sample())
        self.assertTrue(store_of(page(store)) == store)

    def test_unlike_stores(self):
        whole = sample()
        for deed in MORE[:1] + MORE[1:6] + MORE[8:9] + (("drop", "wc"),):
            self.assertFalse(sample(deed) == whole)
            self.assertTrue(sample(deed) != whole)
        self.assertFalse(whole == Store())

    def test_the_names_of_webs_count(self):
        # The webs b and c are equal, so that only the names tell these apart.
        text = "look 1\n* -> 0"
        for drop, one, other in (("bc", ("reader", "bc", "b", "c", text), ("reader", "bc", "b", "b", text)),
                                 ("bc", ("reader", "bc", "b", "c", text), ("reader", "bc", "c", "c", text)),
                                 ("wc", ("walker", "wc", "c", [], [1]), ("walker", "wc", "b", [], [1]))):
            near, far = sample(("drop", drop), one), sample(("drop", drop), other)
            self.assertEqual(near, sample(("drop", drop), one))
            self.assertNotEqual(near, far)

    def test_equal_to_nothing_of_another_kind(self):
        for store in (Store(), sample()):
            self.unlike_strangers(store)
            for thing in (page(store), store.names(), sample().web("a"), sample().reader("ab"), sample().walker("wa")):
                self.assertFalse(store == thing)
                self.assertFalse(thing == store)


if __name__ == "__main__":
    unittest.main()
