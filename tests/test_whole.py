"""What holds over the whole program: [1], [2], and the names of the interface."""

import copy
import importlib
import inspect
import unittest

from aheadfold.alike import alike, alike_holds, between, naming
from aheadfold.desk import Desk
from aheadfold.finer import finer, finer_holds
from aheadfold.folds import (classes, fold, fold_codes, folded, folds_of, named, named_codes, split, split_codes,
                             total)
from aheadfold.judging import (is_one, missing, reaches, sets_hold, sets_of, twins, way_back)
from aheadfold.pages import page, store_of
from aheadfold.readers import Reader, joined, same
from aheadfold.store import Store
from aheadfold.tongue import compiled, reader_text
from aheadfold.walkers import Walker
from aheadfold.webs import Web
from helpers import SAMPLE, Case, sample, state

# The interface, word for word: functions and classes of each file with their arguments, then methods.
INTERFACE = {
    "webs": "Web(rooms, arrows)",
    "walkers": "Walker(web, ahead, ring)",
    "readers": "Reader(web, other, window, table) same(web) joined(one, other)",
    "folds": "folds_of(web) fold(web, one, other) split(web, room, part) named(web, rooms, arrows) "
             "fold_codes(web, one, other) split_codes(web, room, part) named_codes(web, rooms, arrows) "
             "folded(web, folds) classes(web) total(web)",
    "judging": "twins(reader, *, most=2000) is_one(reader) missing(reader, *, most=2000) reaches(reader) "
               "sets_of(reader) sets_hold(reader, sets) way_back(reader)",
    "finer": "finer(reader) finer_holds(reader, paper)",
    "alike": "naming(one, other) alike(one, other) alike_holds(one, other, paper) between(one, other)",
    "tongue": "compiled(text, web, other) reader_text(reader)",
    "store": "Store()",
    "pages": "page(store) store_of(text)",
    "desk": "Desk(store=None)",
}
METHODS = {
    Web: "rooms() arrows() begin(arrow) end(arrow) outs(room) ins(room) leading(one, other) many(length) "
         "rounds(length) rows(length) is_row(row) __len__() __repr__() __eq__(other)",
    Walker: "web() ahead() ring() arrow(beat) later(many) first(many) behind(arrow) __repr__() __eq__(other)",
    Reader: "web() other() window() table() arrow(row) reading(row) made(walker) least() __len__() __repr__() "
            "__eq__(other)",
    Store: "do(deed) many(deeds) undo() redo() names() web(name) reader(name) walker(name) ends(name) goes_in(name) "
           "steps() twin() __len__() __repr__() __eq__(other)",
    Desk: "store() say(line)",
}
VALUES = {
    "webs": {"MOST_ROOMS": 100, "MOST_ARROWS": 400, "MOST_ROWS": 600, "MOST_WINDOW": 6},
    "judging": {"MOST_PAIRS": 2000, "MOST_SETS": 2000},
    "alike": {"MOST_TREE": 8000},
}

GOLDEN = Web(2, [(0, 0), (0, 1), (1, 0)])
GREAT = split(GOLDEN, 0, [1])
STEP = Reader(GOLDEN, GOLDEN, 2, {row: row[1] for row in GOLDEN.rows(2)})
BACK = fold_codes(GREAT, 0, 2)[1]
WALKER = Walker(GOLDEN, [0], [1, 2])
TEXT = "look 1\n0 -> 0\n1 -> 1\n2 -> 2"


def calls():
    """All functions and methods with something to hand in: (call, the names and worths of its arguments)."""
    web, arrows = GOLDEN, [[0, 0], [0, 1], [1, 0]]
    return [
        (Web, {"rooms": 2, "arrows": arrows}), (web.begin, {"arrow": 1}), (web.end, {"arrow": 1}),
        (web.outs, {"room": 0}), (web.ins, {"room": 0}), (web.leading, {"one": 0, "other": 1}),
        (web.many, {"length": 5}), (web.rounds, {"length": 5}), (web.rows, {"length": 3}),
        (web.is_row, {"row": [0, 1, 2]}),
        (Walker, {"web": web, "ahead": [0, 0], "ring": [1, 2]}), (WALKER.arrow, {"beat": 7}),
        (WALKER.later, {"many": 2}),
        (WALKER.first, {"many": 5}), (WALKER.behind, {"arrow": 2}),
        (Reader, {"web": web, "other": web, "window": 2, "table": STEP.table()}), (STEP.arrow, {"row": [0, 1]}),
        (STEP.reading, {"row": [0, 1, 2, 0]}), (STEP.made, {"walker": WALKER}), (same, {"web": web}),
        (joined, {"one": BACK, "other": fold_codes(GREAT, 0, 2)[0]}), (folds_of, {"web": GREAT}),
        (fold, {"web": GREAT, "one": 0, "other": 2}), (split, {"web": web, "room": 0, "part": [1]}),
        (named, {"web": web, "rooms": [1, 0], "arrows": [2, 0, 1]}), (fold_codes, {"web": GREAT, "one": 0, "other": 2}),
        (split_codes, {"web": web, "room": 0, "part": [1]}),
        (named_codes, {"web": web, "rooms": [1, 0], "arrows": [2, 0, 1]}), (folded, {"web": GREAT, "folds": [[0, 2]]}),
        (classes, {"web": GREAT}), (total, {"web": GREAT}), (twins, {"reader": STEP}), (is_one, {"reader": STEP}),
        (missing, {"reader": STEP}), (reaches, {"reader": STEP}), (sets_of, {"reader": STEP}),
        (sets_hold, {"reader": STEP, "sets": [[room, list(ends)] for room, ends in sets_of(STEP)]}),
        (way_back, {"reader": BACK}), (finer, {"reader": BACK}), (finer_holds, {"reader": BACK, "paper": finer(BACK)}),
        (naming, {"one": web, "other": web}), (alike, {"one": web, "other": GREAT}),
        (between, {"one": web, "other": GREAT}),
        (alike_holds, {"one": web, "other": GREAT, "paper": alike(web, GREAT)}),
        (compiled, {"text": TEXT, "web": web, "other": web}), (reader_text, {"reader": STEP}),
        (sample().web, {"name": "a"}), (sample().reader, {"name": "ab"}), (sample().walker, {"name": "wa"}),
        (sample().ends, {"name": "ab"}), (sample().goes_in, {"name": "wa"}), (page, {"store": sample()}),
        (store_of, {"text": page(sample())}), (Desk, {"store": sample()}), (Desk(sample()).say, {"line": "show ab"}),
    ] + [(sample().do, {"deed": deed}) for deed in (("split", "a", 0, [1]), ("go", "wa", 1))] + [
        (sample().many, {"deeds": [("split", "a", 0, [1]), ("go", "wa", 1)]}),
    ]


def plain(thing):
    """A thing with nothing but texts, numbers, lists, tuples and dicts in it."""
    if isinstance(thing, Web):
        return "web", thing.rooms(), thing.arrows()
    if isinstance(thing, Walker):
        return "walker", plain(thing.web()), thing.ahead(), thing.ring()
    if isinstance(thing, Reader):
        return "reader", plain(thing.web()), plain(thing.other()), thing.window(), thing.table()
    if isinstance(thing, Store):
        return "store", state(thing)
    if isinstance(thing, Desk):
        return "desk", state(thing.store())
    if isinstance(thing, (list, tuple)):
        return type(thing)([plain(part) for part in thing])
    return thing


def behind(call, told):
    """What a call told, and for a method what it left its object as."""
    owner = getattr(call, "__self__", None)
    return plain(told), plain(owner)


def swapped(thing):
    """Lists for tuples and tuples for lists, all the way down, but for deeds and papers, which are tuples."""
    if isinstance(thing, list):
        return tuple(swapped(part) for part in thing)
    if isinstance(thing, tuple) and not any(isinstance(part, (str, Web)) for part in thing):
        return [swapped(part) for part in thing]
    if isinstance(thing, tuple):
        return tuple(swapped(part) for part in thing)
    return thing


def spoiled(thing):
    """Change each list and dict in a thing that was handed in."""
    if isinstance(thing, (list, tuple)):
        for part in thing:
            spoiled(part)
    if isinstance(thing, (list, dict)):
        thing.clear()


class Interface(Case):
    def signatures(self, told):
        return [part + ")" for part in told.split(")")[:-1]]

    def test_functions_and_classes_stand_in_their_files(self):
        for file, told in INTERFACE.items():
            module = importlib.import_module("aheadfold." + file)
            for signature in self.signatures(told):
                name = signature.strip().split("(")[0]
                thing = getattr(module, name)
                self.assertEqual(thing.__module__, module.__name__)
                self.assertEqual(name + str(inspect.signature(thing)), signature.strip())

    def test_methods_stand_in_their_classes(self):
        for kind, told in METHODS.items():
            for signature in self.signatures(told):
                name = signature.strip().split("(")[0]
                method = vars(kind)[name]
                names = list(inspect.signature(method).parameters)[1:]
                self.assertEqual(f"{name}({', '.join(names)})", signature.strip())

    def test_values(self):
        for file, values in VALUES.items():
            module = importlib.import_module("aheadfold." + file)
            for name, value in values.items():
                self.told_as(getattr(module, name), value)

    def test_all_are_called_here(self):
        names = {signature.strip().split("(")[0] for told in [*INTERFACE.values(), *METHODS.values()]
                 for signature in self.signatures(told) if not signature.endswith("()") and "__" not in signature}
        self.assertEqual(names - {call.__name__ for call, things in calls()}, set())


class Handed(Case):
    def test_by_name_and_in_another_order(self):
        for (call, things), (named_call, more), (turned_call, others) in zip(calls(), calls(), calls()):
            told = behind(call, call(*things.values()))
            self.assertEqual(behind(named_call, named_call(**more)), told, call)
            turned = dict(reversed(list(others.items())))
            self.assertEqual(behind(turned_call, turned_call(**turned)), told, call)

    def test_the_first_by_place_and_the_others_by_name(self):
        for (call, things), (other_call, more) in zip(calls(), calls()):
            told = behind(call, call(*things.values()))
            first, *rest = more
            self.assertEqual(behind(other_call, other_call(more[first], **{name: more[name] for name in rest})), told)

    def test_what_may_be_left_out(self):
        for call in (twins, missing):
            self.assertEqual(plain(call(STEP)), plain(call(STEP, most=2000)))
            self.assertEqual(plain(call(STEP)), plain(call(most=2000, reader=STEP)))
            with self.assertRaises(TypeError):
                call(STEP, 2000)
        self.assertEqual(plain(Desk()), plain(Desk(None)))
        self.assertEqual(plain(Desk()), plain(Desk(store=Store())))

    def test_lists_and_tuples_are_alike(self):
        for (call, things), (other_call, more) in zip(calls(), calls()):
            turned = {name: swapped(thing) for name, thing in more.items()}
            self.assertEqual(behind(other_call, other_call(**turned)), behind(call, call(**things)), call)

    def test_nothing_is_changed(self):
        for call, things in calls():
            before = copy.deepcopy({name: plain(thing) for name, thing in things.items()})
            call(**things)
            self.assertEqual({name: plain(thing) for name, thing in things.items()}, before, call)

    def test_nothing_is_kept(self):
        for (call, things), (other_call, more) in zip(calls(), calls()):
            wanted = behind(call, call(**things))
            told = other_call(**more)
            for thing in more.values():
                spoiled(thing)
            self.assertEqual(behind(other_call, told), wanted, call)

    def test_each_list_that_is_told_is_a_new_one(self):
        for call, things in calls():
            if call.__name__ in ("do", "many", "say"):
                continue
            told = call(**things)
            wanted = copy.deepcopy(plain(told))
            spoiled(told)
            self.assertEqual(plain(call(**things)), wanted, call)

    def test_the_same_asked_again_is_told_alike(self):
        for call, things in calls():
            if call.__name__ not in ("do", "many"):
                self.assertEqual(plain(call(**things)), plain(call(**things)))

    def test_asking_changes_nothing(self):
        for call, things in calls():
            if call.__name__ not in ("do", "many"):
                before = plain(getattr(call, "__self__", None))
                call(**things)
                self.assertEqual(plain(getattr(call, "__self__", None)), before)

    def test_told_lists_of_things(self):
        for thing in (GOLDEN, WALKER, STEP):
            before = plain(thing)
            for name in ("arrows", "ahead", "ring", "table"):
                if name in vars(type(thing)):
                    getattr(thing, name)().clear()
            self.assertEqual(plain(thing), before)


class Kinds(Case):
    def test_equal_to_nothing_of_another_kind(self):
        things = [GOLDEN, WALKER, STEP, sample(), Store(), Desk(), 0, "", (), [], {}, None, page(sample()), SAMPLE]
        for one in things[:5]:
            for other in things:
                if one is not other:
                    self.assertFalse(one == other)
                    self.assertTrue(one != other)
            self.assertTrue(one == one)


class Still(Case):
    def test_no_clock_chance_or_files(self):
        # A module that imports nothing but the package has no way to any of these but builtins.
        for file in (*INTERFACE, "errors", "trees"):
            module = importlib.import_module("aheadfold." + file)
            for name, thing in vars(module).items():
                if not name.startswith("__"):
                    self.assertFalse(inspect.ismodule(thing), name)
                    self.assertTrue(getattr(thing, "__module__", "aheadfold").startswith("aheadfold"), name)
            names = set()
            for thing in vars(module).values():
                if inspect.isfunction(thing):
                    names |= set(thing.__code__.co_names)
            self.assertEqual(names & {"open", "input", "print", "eval", "exec", "__import__", "id", "hash"}, set())


if __name__ == "__main__":
    unittest.main()
