"""The desk: [23], and the interface under aheadfold/desk.py."""

import unittest

from aheadfold.alike import alike
from aheadfold.desk import Desk
from aheadfold.errors import FoldError
from aheadfold.judging import is_one, reaches
from aheadfold.pages import page
from aheadfold.store import Store
from aheadfold.webs import Web
from helpers import Case, Chance, exchanged, loops, sample, state, things, with_thing

LOOP = [(0, 0)]
# Lines, and the deeds that they are.
LINES = (
    ("web n 1 0>0", ("web", "n", 1, [(0, 0)])),
    ("web n 2 0>1 1>0 0>0", ("web", "n", 2, [(0, 1), (1, 0), (0, 0)])),
    ("walker n a - 0", ("walker", "n", "a", [], [0])),
    ("walker n a 0,1,2 1,2", ("walker", "n", "a", [0, 1, 2], [1, 2])),
    ("join n ab ba", ("join", "n", "ab", "ba")),
    ("back n bc", ("back", "n", "bc")),
    ("make n ab wa", ("make", "n", "ab", "wa")),
    ("split a 0 1", ("split", "a", 0, [1])),
    ("fold s 0 1", ("fold", "s", 0, 1)),
    ("go wa 3", ("go", "wa", 3)),
    ("go wa 0", ("go", "wa", 0)),
    ("go wa 999999", ("go", "wa", 999999)),
    ("drop wa", ("drop", "wa")),
)
REFUSED = (
    ("web N 1 0>0", "BadName"), ("web abcdefghi 1 0>0", "BadName"), ("web - 1 0>0", "BadName"), ("web a 0 0>0",
    "Taken"),
    ("web wa 1 0>0", "Taken"), ("web n 0 0>0", "BadWeb"), ("web n 1 0>1", "BadWeb"), ("web n 2 0>1", "BadWeb"),
    ("web n 999999 0>0", "BadWeb"), ("web n 11 " + " ".join(f"{k}>{k}" for k in range(11)), "Wide"),
    ("web n 1 " + " ".join(["0>0"] * 25), "Wide"), ("walker N zz 9 9", "BadName"), ("walker a zz 9 9", "Taken"),
    ("walker n zz 9 9", "NoWeb"), ("walker n ab 9 9", "NoWeb"), ("walker n a 9 9", "BadWalk"),
    ("walker n a - 1", "BadWalk"), ("walker n a 1 0", "BadWalk"), ("join N zz zz", "BadName"),
    ("join wa zz zz", "Taken"), ("join n zz ab", "NoReader"), ("join n ab zz", "NoReader"), ("join n a wa", "NoReader"),
    ("join n ab ab", "Apart"), ("join n bc bc", "Apart"), ("join n far far", "TooMany"), ("back ! zz", "BadName"),
    ("back a zz", "Taken"), ("back n zz", "NoReader"), ("back n wa", "NoReader"), ("back n aa", "NotBack"),
    ("make a? zz zz", "BadName"), ("make a zz zz", "Taken"), ("make n zz zz", "NoReader"), ("make n ab zz", "NoWalker"),
    ("make n ab a", "NoWalker"), ("make n ab wb", "Apart"), ("make n bc wc", "Apart"), ("split zz 9 9", "NoWeb"),
    ("split wa 0 0", "NoWeb"), ("split a 9 9", "BadRoom"), ("split a 0 9", "BadPart"), ("split a 0 0 1", "BadPart"),
    ("split a 0 1 1", "BadPart"), ("split a 1 2", "BadPart"), ("split b 0 0", "TooMany"), ("fold zz 9 9", "NoWeb"),
    ("fold ab 0 1", "NoWeb"), ("fold a 9 0", "BadRoom"), ("fold a 0 2", "BadRoom"), ("fold a 0 0", "BadFold"),
    ("fold a 0 1", "BadFold"), ("fold s 1 0", "BadFold"), ("go zz 1", "NoWalker"), ("go a 1", "NoWalker"),
    ("drop zz", "NoName"), ("drop WA", "NoName"), ("drop a", "Used"), ("show zz", "NoName"), ("show A", "NoName"),
    ("one zz", "NoReader"), ("one a", "NoReader"), ("one wa", "NoReader"), ("reach zz", "NoReader"),
    ("reach wa", "NoReader"), ("alike zz a", "NoWeb"), ("alike a zz", "NoWeb"), ("alike ab a", "NoWeb"),
    ("alike a wa", "NoWeb"), ("made zz zz", "NoReader"), ("made a wa", "NoReader"), ("made ab zz", "NoWalker"),
    ("made ab a", "NoWalker"), ("made ab wb", "Apart"), ("made bc wc", "Apart"), ("made ba wc", "Apart"),
)
SHIFT = "look 6\n* * * * * 0 -> 0\n* * * * * 1 -> 1"


def filled():
    """The sample with a web that folds, and a reader that looks far."""
    return sample(("web", "s", 1, LOOP * 2), ("split", "s", 0, [0]), ("reader", "far", "b", "b", SHIFT),
                  ("reader", "to", "c", "b", SHIFT))


class Lines(Case):
    def check_state(self, desk, store):
        self.assertEqual(state(desk.store()), state(store))

    def test_each_deeds_line(self):
        for line, deed in LINES:
            store = filled()
            desk = Desk(store)
            self.assertEqual(desk.say(line), "done")
            store.do(deed)
            self.check_state(desk, store)
            # The steps tell the very same deeds.
            twin = desk.store()
            self.assertEqual(twin.undo(), store.undo())

    def test_steps(self):
        store = sample()
        desk = Desk(store)
        for line, call in (("undo", store.undo), ("undo", store.undo), ("redo", store.redo)):
            self.assertEqual(desk.say(line), "done")
            call()
            self.check_state(desk, store)
        self.assertEqual([desk.say("redo"), desk.say("redo")], ["done", "no NothingLeft"])
        self.assertEqual([desk.say("undo") for step in range(11)], ["done"] * 10 + ["no NothingLeft"])
        self.assertEqual(Desk().say("undo"), "no NothingLeft")
        self.assertEqual(Desk().say("redo"), "no NothingLeft")

    def test_refusals(self):
        store = filled()
        store.undo()
        store.redo()
        store.do(("go", "wa", 1))
        store.undo()
        desk = Desk(store)
        for line, word in REFUSED:
            self.assertEqual(desk.say(line), "no " + word, line)
            self.check_state(desk, store)
        self.assertEqual(desk.say("redo"), "done")

    def test_full(self):
        desk = Desk(sample(("web", "d", 1, LOOP), ("web", "e", 1, LOOP), ("web", "f", 1, LOOP)))
        self.assertEqual(desk.say("web g 1 0>0"), "no Full")
        for name in ("g", "h", "i", "j"):
            self.assertEqual(desk.say(f"back {name} bc"), "done")
            self.assertEqual(desk.say(f"make {name}w bc wb"), "done")
        self.assertEqual([desk.say(line) for line in ("back k bc", "walker kw a - 0", "make lw bc wb")],
                         ["no Full", "done", "no Full"])

    def test_what_is_answered_is_a_text(self):
        desk = Desk(filled())
        for line in [line for line, deed in LINES] + [line for line, word in REFUSED] + ["", "names", "one ab"]:
            self.assertIs(type(desk.say(line=line)), str)


class Questions(Case):
    def test_names(self):
        self.assertEqual(Desk().say("names"), "none")
        self.assertEqual(Desk(sample()).say("names"), "a aa ab b ba bc c wa wb wc")
        desk = Desk()
        desk.say("web a 1 0>0")
        self.assertEqual(desk.say("names"), "a")

    def test_show(self):
        desk = Desk(sample())
        rows = page(sample()).split("\n")[:-1]
        for row in rows:
            self.assertEqual(desk.say("show " + row.split(" ")[1]), row)
        self.assertEqual(desk.say("show wb"), "walker wb b - 0,1,1")
        self.assertEqual(Desk().say("show a"), "no NoName")

    def test_one_and_reach(self):
        store = sample(("reader", "xor", "b", "b", "look 2\n0 0 -> 0\n1 1 -> 0\n* * -> 1"),
                       ("reader", "nil", "b", "b", "look 1\n* -> 0"), ("web", "d", 1, LOOP),
                       ("reader", "db", "d", "b", "look 1\n* -> 1"))
        desk = Desk(store)
        answers = {}
        for name, kind in store.names():
            if kind == "reader":
                told = (desk.say(f"one {name}"), desk.say(f"reach {name}"))
                reader = store.reader(name)
                self.assertEqual(told, tuple("yes" if truth else "no" for truth in (is_one(reader), reaches(reader))))
                answers[name] = told
        self.assertEqual(answers, {"aa": ("no", "yes"), "ab": ("no", "no"), "ba": ("no", "yes"), "bc": ("yes", "yes"),
                                   "db": ("yes", "no"), "nil": ("no", "no"), "xor": ("no", "yes")})

    def test_one_may_be_too_many(self):
        desk = Desk(sample(("web", "n", *loops(24)), ("reader", "r", "n", "b", "look 2\n* 0 -> 1\n* * -> 0")))
        self.assertEqual(desk.say("one r"), "no TooMany")
        self.assertEqual(desk.say("reach r"), "yes")

    def test_alike(self):
        desk = Desk(sample(("split", "c", 0, [0]), ("web", "d", 1, LOOP * 3)))
        for line, told in (("alike a a", "yes"), ("alike b c", "yes"), ("alike c b", "yes"), ("alike a b", "no"),
                           ("alike d b", "no"), ("alike c d", "no"), ("alike d d", "yes")):
            self.assertEqual(desk.say(line), told)

    def test_alike_as_no_one_has_chosen(self):
        chance = Chance(23)
        told = {"yes": 0, "no": 0}
        for step in range(60):
            web = chance.small()
            other = chance.kin(web if step % 2 else chance.bent(web), 4)
            store = Store()
            for name, thing in (("x", web), ("y", other)):
                store.do(("web", name, thing.rooms(), thing.arrows()))
            answer = Desk(store).say("alike x y")
            self.assertEqual(answer, "yes" if alike(web, other)[0] == "alike" else "no")
            told[answer] += 1
        self.assertGreater(min(told.values()), 10)

    def test_made(self):
        store = sample()
        desk = Desk(store)
        for reader, walker in (("ab", "wa"), ("aa", "wa"), ("ba", "wb"), ("bc", "wb")):
            row = Desk(sample(("make", "n", reader, walker))).say("show n")
            self.assertEqual("walker n " + store.ends(reader)[1] + " " + desk.say(f"made {reader} {walker}"), row)
        self.assertEqual(desk.say("made ab wa"), "- 0,0,1,0,1")
        self.assertEqual(desk.say("made aa wa"), "- 0,1,2,1,2")

    def test_made_in_a_full_store(self):
        desk = Desk(sample(*[("walker", name, "a", [], [0]) for name in ("d", "e", "f", "g", "h")]))
        self.assertEqual(desk.say("made ab wa"), "- 0,0,1,0,1")

    def test_equal_webs_under_two_names_are_two(self):
        store = sample()
        self.assertEqual(store.web("b"), store.web("c"))
        self.assertEqual(Desk(store).say("made bc wc"), "no Apart")
        self.assertEqual(Desk(store).say("made bc wb"), "- 1,0,0")

    def test_questions_leave_the_steps(self):
        store = sample()
        store.undo()
        desk = Desk(store)
        for line in ("names", "show a", "show ab", "show wa", "one ab", "reach ab", "alike a b", "made ab wa",
                     "show zz",
                     "one zz", "what", ""):
            desk.say(line)
            self.assertEqual(state(desk.store()), state(store))
        self.assertEqual(desk.say("redo"), "done")


class Whats(Case):
    def setUp(self):
        store = filled()
        store.do(("go", "wa", 1))
        store.undo()
        self.desk = Desk(store)
        self.before = state(store)

    def what(self, line):
        self.assertEqual(self.desk.say(line), "what", line)
        self.assertEqual(state(self.desk.store()), self.before, line)

    def test_no_lines(self):
        for line in ("", " ", "  ", "what", "none", "done", "reader n a b look", "reader", "name", "many", "look 1",
                     "reader n a a look 1\n* -> 0", "reader n a b 1 0:0 1:1 2:0", "name a 1,0 0,1,2",
                     "name a 1 0 0 1 2",
                     "steps", "twin", "len", "page", "ends ab", "help", "0", "*", "Names", "NAMES", "names names",
                     "undo 1", "redo 1", "Undo", "undo undo", "names\n", "\nnames", "names\nnames", "drop wa\n",
                     "show a\n", "undo\n", "\tnames", "names\t", "web", "show", "drop"):
            self.what(line)

    def test_blanks(self):
        lines = [line for line, deed in LINES] + [
            "undo", "redo", "names", "show a", "one ab", "reach ab", "alike a b", "made ab wa"]
        for line in lines:
            for bent in (" " + line, line + " ", "  " + line, line + "  ", line + "\n", "\n" + line):
                self.what(bent)
            words = line.split(" ")
            for at in range(len(words)):
                self.what(" ".join(with_thing(words, at, "")))
            for at in range(1, len(words)):
                self.what(" ".join(words[:at]) + "  " + " ".join(words[at:]))
                self.what(" ".join(words[:at]) + "\t" + " ".join(words[at:]))

    def test_words_out(self):
        for line in ("web n 1", "web n", "web n 0>0", "web 1 0>0", "walker n a 0", "walker n - 0", "walker a 0",
                     "join n ab",
                     "join n", "back n", "make n ab", "make n", "split a 0", "split a", "split 0 1", "fold s 0",
                     "fold s", "fold 0 1", "go wa", "go 3", "go", "one", "reach", "alike a", "alike", "made ab",
                     "made"):
            self.what(line)

    def test_words_in(self):
        for line in ("walker n a - 0 0", "walker n a - 0 1", "join n ab ba ab", "back n bc bc", "make n ab wa wa",
                     "fold s 0 1 1", "fold s 0 1 x", "go wa 3 3", "drop wa wb", "show a b", "one ab ab", "reach ab ab",
                     "alike a b c", "made ab wa wa", "names a"):
            self.what(line)

    def test_numbers(self):
        for number in ("00", "01", "001", "1000000", "0000001", "9999999", "+1", "-1", "-0", "+0", "1.", "1_0", "x",
                       "1x",
                       "-", "*", "1,", "0x1", "\u0661", "\u00b2", "\uff11", "1\n"):
            for line in ("web n {} 0>0", "web n 1 {}>0", "web n 1 0>{}", "web n 1 0>0 0>{}", "walker n a - {}",
                         "walker n a - 0,{}", "walker n a 0,{} 0", "split a {} 1", "split a 0 {}", "split a 0 1 {}",
                         "fold s {} 1", "fold s 0 {}", "go wa {}"):
                self.what(line.format(number))
            if number != "-":
                self.what(f"walker n a {number} 0")

    def test_arrows(self):
        for word in ("0", "0>", ">0", ">", "0>0>0", "0-0", "0,0", "0>0,", "0:0", "0=>0", "0<0", "(0,0)"):
            self.what(f"web n 1 {word}")
            self.what(f"web n 1 0>0 {word}")
        for word in (",", "0,", ",0", "0,,0", "0;0", "0-", "-,0", "0,-", "--", "0>0", "|"):
            self.what(f"walker n a {word} 0")
            self.what(f"walker n a - {word}")
        self.what("walker n a - -")
        self.what("walker n a 0 -")
        self.what("split a 0 0,1")
        self.what("split a 0 -")

    def test_a_line_that_is_none_comes_ahead_of_refusals(self):
        for line in ("fold zz 0 x", "fold a 0 -1", "go a +1", "go zz -1", "web A 01 0>0", "walker N zz - -",
                     "split zz 9 x",
                     "web a 1 0>00", "drop zz zz"):
            self.what(line)

    def test_first_words_exchanged(self):
        for line, deed in LINES:
            words = line.split(" ")
            for at in range(1, len(words)):
                self.what(" ".join(exchanged(words, 0, at)))


class Stores(Case):
    def test_a_desk_of_its_own(self):
        desk = Desk()
        self.assertEqual(desk.store(), Store())
        self.assertEqual(Desk(store=None).store().steps(), (0, 0))
        desk.say("web a 1 0>0")
        self.assertEqual(desk.store().web("a"), Web(1, LOOP))
        self.assertEqual(Desk().say("names"), "none")

    def test_a_twin_is_kept(self):
        store = sample()
        store.undo()
        desk = Desk(store)
        self.assertEqual(state(desk.store()), state(store))
        before = state(store)
        for line in ("redo", "go wa 3", "undo", "split a 0 1", "drop wb"):
            self.assertEqual(desk.say(line), "done")
        self.assertEqual(state(store), before)
        after = state(desk.store())
        store.undo()
        store.do(("drop", "wa"))
        self.assertEqual(state(desk.store()), after)

    def test_a_twin_is_told(self):
        desk = Desk(store=sample())
        told = desk.store()
        told.do(("drop", "wa"))
        told.undo()
        told.undo()
        self.assertEqual(state(desk.store()), state(sample()))
        before = state(told)
        desk.say("undo")
        desk.say("undo")
        self.assertEqual(state(told), before)
        self.assertEqual(things(desk.store()), things(sample(("drop", "wb"), ("drop", "wc"))))

    def test_lines_and_deeds_as_no_one_has_chosen(self):
        chance = Chance(24)
        lines = list(LINES) + [("undo", None), ("redo", None)]
        for seed in range(4):
            store = filled()
            desk = Desk(store)
            for step in range(60):
                line, deed = chance.random.choice(lines)
                answer = "done"
                try:
                    store.do(deed) if deed else store.undo() if line == "undo" else store.redo()
                except (FoldError, LookupError) as error:
                    answer = "no " + error.word
                self.assertEqual(desk.say(line), answer)
            self.assertEqual(state(desk.store()), state(store))


if __name__ == "__main__":
    unittest.main()
