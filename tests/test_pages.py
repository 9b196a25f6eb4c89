"""Pages: [22], and the interface under aheadfold/pages.py."""

import re
import unittest

from aheadfold.errors import BadPage, FoldError
from aheadfold.pages import page, store_of
from aheadfold.readers import Reader
from aheadfold.store import Store
from aheadfold.walkers import Walker
from aheadfold.webs import Web
from helpers import Case, Chance, exchanged, loops, sample, state, things, with_thing

LOOP = [(0, 0)]
PAGE = """\
web a 2 0>0 0>1 1>0
web b 1 0>0 0>0
web c 1 0>0 0>0
reader aa a a 2 0,0:0 0,1:1 1,2:2 2,0:0 2,1:1
reader ab a b 1 0:0 1:1 2:0
reader ba b a 3 0,0,0:0 0,0,1:0 0,1,0:1 0,1,1:0 1,0,0:2 1,0,1:2 1,1,0:1 1,1,1:0
reader bc b c 1 0:1 1:0
walker wa a 0 0,1,2,1,2
walker wb b - 0,1,1
walker wc c 1 0
"""
NAME = "([a-z]{1,8})"
NUMBER = "(?:0|[1-9][0-9]{0,5})"
NUMBERS = f"{NUMBER}(?:,{NUMBER})*"
FORMS = {
    "web": re.compile(f"web {NAME} ({NUMBER})((?: {NUMBER}>{NUMBER})+)"),
    "reader": re.compile(f"reader {NAME} {NAME} {NAME} ([1-6])((?: {NUMBERS}:{NUMBER})+)"),
    "walker": re.compile(f"walker {NAME} {NAME} (-|{NUMBERS}) ({NUMBERS})"),
}
ORDER = ("web", "reader", "walker")
MOST = {"web": 6, "reader": 8, "walker": 8}


def slow_thing(kind, words, webs):
    """The thing of a row of the right form; ValueError or KeyError where it cannot be."""
    if kind == "web":
        web = Web(int(words[0]), [tuple(map(int, word.split(">"))) for word in words[1].split()])
        if web.rooms() > 10 or len(web) > 24:
            raise ValueError
        return web
    if kind == "walker":
        told = [[int(word) for word in part.split(",") if word != "-"] for part in words[1:]]
        walker = Walker(webs[words[0]], *told)
        if [walker.ahead(), walker.ring()] != told:
            raise ValueError
        return walker
    rules = [word.split(":") for word in words[3].split()]
    rows = [tuple(map(int, row.split(","))) for row, arrow in rules]
    window = int(words[2])
    if rows != webs[words[0]].rows(window):
        raise ValueError
    table = {row: int(arrow) for row, (told, arrow) in zip(rows, rules)}
    if window > 1 and len(set((row[:-1], arrow) for row, arrow in table.items())) == len({row[:-1] for row in rows}):
        raise ValueError
    return Reader(webs[words[0]], webs[words[1]], window, table)


def slow_row(row, found, webs):
    """Add the thing of a row to what is found; False where the row is not so written, or cannot be."""
    for kind in ORDER:
        match = FORMS[kind].fullmatch(row)
        if not match:
            continue
        name, *words = match.groups()
        place = (ORDER.index(kind), name)
        if name in [other for at, other in found] or found and place <= found[-1]:
            return False
        if sum(at == place[0] for at, other in found) == MOST[kind]:
            return False
        try:
            thing = slow_thing(kind, words, webs)
        except (ValueError, KeyError):
            return False
        if kind == "web":
            webs[name] = thing
        found.append(place)
        return True
    return False


def slow_store_of(text):
    """The number of the first wrong row of a page, or None, by the document's words."""
    *rows, last = text.split("\n")
    found, webs = [], {}
    for at, row in enumerate(rows):
        if not slow_row(row, found, webs):
            return at
    return len(rows) if last else None


def bends(text):
    """Texts that are nearly the page."""
    rows = text.split("\n")
    for at, row in enumerate(rows):
        words = row.split(" ")
        for told in ([], [row, row], [row, ""], ["", row], [row + " "], [" " + row], [row.upper()], [row + "\t"],
                     [row, row[:-1]]):
            yield "\n".join(rows[:at] + told + rows[at + 1:])
        for other in range(len(rows)):
            yield "\n".join(exchanged(rows, at, other))
        for place in range(len(words)):
            for told in ([], [words[place]] * 2, ["", words[place]], [words[place] + ","], ["," + words[place]]):
                yield "\n".join(with_thing(rows, at, " ".join(words[:place] + told + words[place + 1:])))
            for other in range(len(words)):
                yield "\n".join(with_thing(rows, at, " ".join(exchanged(words, place, other))))
            for word in ("a", "b", "c", "d", "aa", "wa", "0", "1", "2", "3", "00", "01", "-1", "+1", "-", "0,0", "1,2",
                         "0:0", "0>0", "1>1", "0>2", "1:1", "0,1:1", "abcdefghi", "A", "web", "*:0", "*", "1000000",
                         "0,", "0>", ":0", "0:", ">", "0>0>0", "0:0:0", "\u0661"):
                yield "\n".join(with_thing(rows, at, " ".join(with_thing(words, place, word))))
                yield "\n".join(with_thing(rows, at, " ".join(words[:place] + [word] + words[place:])))
        for place in range(len(row) + 1):
            for sign in " 0!\n":
                yield "\n".join(with_thing(rows, at, row[:place] + sign + row[place:]))
            yield "\n".join(with_thing(rows, at, row[:place] + row[place + 1:]))


class Pages(Case):
    def test_rows_as_told(self):
        self.assertEqual(page(sample()), PAGE)
        self.assertEqual(page(store=Store()), "")
        self.assertIs(type(page(Store())), str)

    def test_rows_rise_by_names_in_each_kind(self):
        store = Store()
        for name in ("z", "b", "aa", "a", "m"):
            store.do(("web", name, 1, LOOP))
        for name, web in (("y", "a"), ("c", "z"), ("ca", "b")):
            store.do(("walker", name, web, [], [0]))
            store.do(("reader", name + "r", web, "m", "look 1\n* -> 0"))
        self.assertEqual([row.split(" ")[1] for row in page(store).split("\n")[:-1]],
                         ["a", "aa", "b", "m", "z", "car", "cr", "yr", "c", "ca", "y"])

    def test_tables_rise_as_numbers(self):
        store = Store()
        store.do(("web", "a", *loops(11)))
        store.do(("reader", "r", "a", "a", "look 1\n10 -> 2\n* -> 10"))
        store.do(("walker", "w", "a", [10, 9], [9, 10]))
        arrows = " ".join(["0>0"] * 11)
        table = " ".join([f"{arrow}:10" for arrow in range(10)] + ["10:2"])
        self.assertEqual(page(store), f"web a 1 {arrows}\nreader r a a 1 {table}\nwalker w a 10,9 9,10\n")

    def test_read_it_is_an_equal_store_without_steps(self):
        for store in (Store(), sample(), sample(("split", "a", 0, [1]), ("split", "b", 0, [0]), ("go", "wa", 1))):
            told = store_of(page(store))
            self.assertIs(type(told), Store)
            self.assertEqual(things(told), things(store))
            self.assertEqual(told, store)
            self.assertEqual(told.steps(), (0, 0))
            self.assertEqual(page(told), page(store))
        self.assertEqual(store_of(text=PAGE), sample())

    def test_deeds_in_one_leave_the_other(self):
        store = sample()
        told = store_of(page(store))
        before = state(store)
        told.do(("split", "a", 0, [1]))
        told.do(("go", "wb", 1))
        told.undo()
        self.assertEqual(state(store), before)
        after = state(told)
        store.do(("drop", "wa"))
        store.undo()
        store.undo()
        self.assertEqual(state(told), after)
        self.assertEqual(after[1], (1, 1))

    def test_asking_changes_nothing(self):
        store = sample()
        store.undo()
        before = state(store)
        page(store)
        self.assertEqual(state(store), before)

    def test_stores_that_no_one_has_chosen(self):
        chance = Chance(22)
        for step in range(30):
            store = sample()
            for deed in range(6):
                web = chance.random.choice("abc")
                part = chance.part(store.web(web))
                try:
                    store.do(("split", web, *part) if part else ("go", "wa", 1))
                except FoldError:
                    pass
            self.assertEqual(things(store_of(page(store))), things(store))
            self.assertIsNone(slow_store_of(page(store)))


class BadPages(Case):
    def bad(self, row, text):
        self.refused(BadPage, {"row": row}, store_of, text)
        self.assertEqual(slow_store_of(text), row, text)

    def rows(self, at, *told):
        """The page with other rows for one of its rows."""
        rows = PAGE.split("\n")
        return "\n".join(rows[:at] + list(told) + rows[at + 1:])

    def test_texts(self):
        self.bad(0, "\n")
        self.bad(0, "x")
        self.bad(0, " ")
        self.bad(0, "web a 1 0>0")
        self.bad(1, "web a 1 0>0\n\n")
        self.bad(10, PAGE + "\n")
        self.bad(10, PAGE + "x")
        self.bad(10, PAGE + "walker wd a - 0")
        self.bad(9, PAGE[:-1])
        self.bad(9, PAGE[:-2])
        self.bad(10, PAGE + " ")
        # A row that is wrong comes ahead of the last one.
        self.bad(1, self.rows(1, "web b 1")[:-1])

    def test_rows_out_twice_and_exchanged(self):
        for at in range(10):
            self.bad(at + 1, self.rows(at, *[PAGE.split("\n")[at]] * 2))
        self.bad(2, self.rows(0))
        self.bad(3, self.rows(1))
        self.bad(5, self.rows(2))
        for at in range(3, 10):
            self.assertEqual(len(store_of(self.rows(at))), 9)
        for one, other, row in ((0, 1, 1), (1, 2, 2), (2, 3, 3), (3, 4, 4), (6, 7, 7), (8, 9, 9), (0, 9, 0), (4, 5, 5),
                                (0, 2, 1), (2, 6, 2), (7, 9, 8)):
            self.bad(row, "\n".join(exchanged(PAGE.split("\n"), one, other)))

    def test_names(self):
        for name in ("A", "", "abcdefghi", "a1", "a-"):
            self.bad(0, f"web {name} 1 0>0\n")
        # A name that is taken by a thing of another kind.
        self.bad(6, self.rows(6, "reader c b c 1 0:1 1:0"))
        self.bad(9, self.rows(9, "walker zz c 1 0", "walker zz c 1 0").replace("walker zz", "walker wb", 1))
        self.bad(1, "web a 1 0>0\nwalker a a - 0\n")
        self.bad(2, "web a 1 0>0\nreader b a a 1 0:0\nwalker b a - 0\n")

    def test_webs(self):
        for rest in ("", " 1", " 0 0>0", " 1 0>1", " 2 0>1", " 01 0>0", " 1 00>0", " 1 0>0 ", " 1 0-0", " 1 0,0",
                     " 1 0>0>0", "  1 0>0", " 1  0>0", " +1 0>0", " 1 0>-0", " 101 0>0", " 1000000 0>0", " 1 0>0,0"):
            self.bad(0, f"web a{rest}\n")
        wide = [loops(*[1] * 11), loops(25), loops(*[3] * 8 + [1])]
        for rooms, arrows in wide:
            told = " ".join(f"{begin}>{end}" for begin, end in arrows)
            self.bad(1, f"web a 1 0>0\nweb b {rooms} {told}\n")

    def test_a_seventh_web(self):
        six = "".join(f"web {name} 1 0>0\n" for name in "abcdef")
        self.assertEqual(len(store_of(six)), 6)
        self.bad(6, six + "web g 1 0>0\n")
        self.bad(6, six + "web g 1 0>0\nx")

    def test_a_ninth_reader_or_walker(self):
        for kind, rest in (("reader", "a a 1 0:0"), ("walker", "a - 0")):
            eight = "web a 1 0>0\n" + "".join(f"{kind} {name} {rest}\n" for name in "bcdefghi")
            self.assertEqual(len(store_of(eight)), 9)
            self.bad(9, eight + f"{kind} j {rest}\n")
        rows = [f"reader {name} a a 1 0:0\n" for name in "bcdefghi"] + [f"walker {name} a - 0\n" for name in "jklmnopq"]
        self.assertEqual(len(store_of("web a 1 0>0\n" + "".join(rows))), 17)

    def test_readers(self):
        for row in ("reader ab a b 2 0,0:0 0,1:0 1,2:1 2,0:0 2,1:0", "reader ab a b 1 1:1 0:0 2:0",
                    "reader ab a b 1 0:0 1:1",
                    "reader ab a b 1 0:0 0:0 1:1 2:0", "reader ab a b 1 0:0 1:1 2:0 2:0", "reader ab a b 1 0:0 1:1 2:2",
                    "reader ab a b 1 0:0 1:1 3:0", "reader ab a b 01 0:0 1:1 2:0", "reader ab a b 1 0:0 1:01 2:0",
                    "reader ab a b 1 00:0 1:1 2:0", "reader ab a b 7 0:0 1:1 2:0", "reader ab a b 0 0:0 1:1 2:0",
                    "reader ab a b 1", "reader ab a b", "reader ab a 1 0:0 1:1 2:0", "reader ab a zz 1 0:0 1:1 2:0",
                    "reader ab aa b 1 0:0 1:1 2:0", "reader ab a b 1 0:0 1:1 2", "reader ab a b 1 0:0 1:1 2:",
                    "reader ab a b 1 0:0 1:1 :0", "reader ab a b 1 0:0 1:1 *:0", "reader ab a b 1 0:0 1:1 b1:0",
                    "reader ab a b 1 0:0 1:1 2:0:0", "reader ab a b 1 0:0 1:1 2,:0", "reader ab a b 1 *:0",
                    "reader ab a b 2 0,0:0 1:1 2:0", "reader ab a a 1 0:1 1:1 2:1", "reader ab a b 1 0:0  1:1 2:0"):
            self.bad(4, self.rows(4, row))

    def test_walkers(self):
        for row in ("walker wa a - 0,0", "walker wa a 0 0", "walker wa a 1,2 1,2", "walker wa a - 1,2,1,2",
                    "walker wa a 1 2,1",
                    "walker wa a - 1", "walker wa a - -", "walker wa a 0", "walker wa a 0 ", "walker wa a  0",
                    "walker wa a - 3",
                    "walker wa a -  0", "walker wa a - 00", "walker wa a - 0,", "walker wa a , 0", "walker wa a 0,- 0",
                    "walker wa - 0", "walker wa zz - 0", "walker wa ab - 0", "walker wa a - 0 0", "walker wa a -0 0",
                    "walker wa a 0 1 2", "walker wa a 2 2"):
            self.bad(7, self.rows(7, row))

    def test_bent_pages(self):
        whole = 0
        drops = [("drop", name) for name in ("aa", "ba", "bc", "wa", "wc", "c")]
        for text in (PAGE, page(sample(("split", "a", 0, [1]), *drops))):
            for bent in sorted(set(bends(text))):
                row = slow_store_of(bent)
                if row is None:
                    whole += 1
                    self.assertEqual(page(store_of(bent)), bent)
                    self.assertEqual(store_of(bent).steps(), (0, 0))
                else:
                    self.refused(BadPage, {"row": row}, store_of, bent)
        # Some of them are pages after all.
        self.assertGreater(whole, 50)


if __name__ == "__main__":
    unittest.main()
