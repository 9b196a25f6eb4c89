"""Texts of readers: [19], and the interface under aheadfold/tongue.py."""

import itertools
import re
import unittest

from aheadfold.errors import BadTable, BadText, FoldError, TooMany
from aheadfold.readers import Reader, joined, same
from aheadfold.tongue import compiled, reader_text
from aheadfold.webs import Web
from helpers import (ROWS_600_OF_2, ROWS_600_OF_6, ROWS_601_OF_2, ROWS_601_OF_6, SMALL, TWO, Case, Chance, exchanged,
                     loops, reader_by, rule_reader, slow_rows, wider, with_thing)

GOLDEN = Web(2, [(0, 0), (0, 1), (1, 0)])
NUMBER = re.compile("0|[1-9][0-9]{0,5}", re.ASCII)
# From the two arrows of one room to the walks without a doubled room 1.
TEXT = "look 3\n1 0 1 -> 2\n1 0 * -> 2\n* !0 0 -> 1\n* 1 e0 -> 0\n* !* * -> 1\n!b0 * * -> 1\n* * * -> 0"


def slow_number(word):
    return int(word) if NUMBER.fullmatch(word) else None


def slow_word(word, arrows, rooms):
    """The arrows that a word fits, or None, word for word."""
    plain = word[1:] if word[:1] == "!" else word
    every = set(range(len(arrows)))
    if plain == "*":
        found = every
    elif plain[:1] in ("b", "e") and plain:
        room = slow_number(plain[1:])
        if room not in range(rooms):
            return None
        found = {arrow for arrow in every if arrows[arrow]["be".index(plain[0])] == room}
    else:
        number = slow_number(plain)
        if number not in every:
            return None
        found = {number}
    return every - found if word != plain else found


def slow_rule(row, window, web, other):
    words = row.split(" ")
    if len(words) != window + 2 or words[-2] != "->" or slow_number(words[-1]) not in range(len(other)):
        return None
    fits = [slow_word(word, web.arrows(), web.rooms()) for word in words[:-2]]
    return None if None in fits else (fits, int(words[-1]))


def slow_compiled(text, web, other):
    """What a text is, by the document's words: a reader's table, or the refusal and its field."""
    head, *rows = text.split("\n")
    look, blank, number = head.partition(" ")
    window = slow_number(number)
    if look != "look" or not blank or not window:
        return BadText, 0
    if window > 6:
        return TooMany, 6
    if web.many(window) > 600:
        return TooMany, 600
    rules = [slow_rule(row, window, web, other) for row in rows]
    if None in rules:
        return BadText, 1 + rules.index(None)
    table = {}
    for row in slow_rows(web.arrows(), window):
        arrows = [arrow for fits, arrow in rules if all(one in fit for one, fit in zip(row, fits))]
        if not arrows:
            return BadText, 1 + len(rows)
        table[row] = arrows[0]
    for row in slow_rows(web.arrows(), window + 1):
        if other.end(table[row[:-1]]) != other.begin(table[row[1:]]):
            return BadTable, row
    return window, table


def told(text, web, other):
    """What the program says of a text, in the form of slow_compiled."""
    try:
        reader = compiled(text, web, other)
    except FoldError as error:
        return type(error), *[worth for name, worth in vars(error).items() if name != "word"]
    return reader.window(), reader.table()


def bends(text):
    """Texts with rows out, twice or exchanged, words out, in, exchanged or others, and signs out or in."""
    rows = text.split("\n")
    for at, row in enumerate(rows):
        words = row.split(" ")
        yield rows[:at] + rows[at + 1:]
        yield rows[:at] + [row, row] + rows[at + 1:]
        yield exchanged(rows, at, 0)
        for place in range(len(words)):
            yield with_thing(rows, at, " ".join(words[:place] + words[place + 1:]))
            yield with_thing(rows, at, " ".join(exchanged(words, place, 0)))
            for word in ("*", "!*", "0", "1", "2", "7", "00", "01", "-1", "+1", "b0", "b1", "b7", "e0", "!e1", "!b00",
                         "!!0", "", "!", "b", "e", "b*", "->", "look", "9999999", "x", "0!", "b!0",
                         "1,", "\u0661"):
                yield with_thing(rows, at, " ".join(words[:place] + [word] + words[place:]))
                yield with_thing(rows, at, " ".join(with_thing(words, place, word)))
        for place in range(len(row) + 1):
            for sign in (" ", "\n", "-", "\t"):
                yield with_thing(rows, at, row[:place] + sign + row[place:])
            yield with_thing(rows, at, row[:place] + row[place + 1:])


class Words(Case):
    def check(self, text, web, other, arrows):
        """The text has these arrows for the rows of its window, rising."""
        reader = compiled(text, web, other)
        self.assertEqual(list(reader.table().values()), arrows)
        self.assertEqual((reader.web(), reader.other()), (web, other))

    def test_words_of_every_form(self):
        web = Web(2, [(0, 0), (0, 1), (1, 0), (1, 1)])
        two = Web(1, [(0, 0)] * 2)
        for word, arrows in (("*", (0, 1, 2, 3)), ("2", (2,)), ("b0", (0, 1)), ("b1", (2, 3)), ("e0", (0, 2)),
                             ("e1", (1, 3)), ("!*", ()), ("!2", (0, 1, 3)), ("!b0", (2, 3)), ("!b1", (0, 1)),
                             ("!e0", (1, 3)), ("!e1", (0, 2))):
            fit = [1 if arrow in arrows else 0 for arrow in range(4)]
            self.check(f"look 1\n{word} -> 1\n* -> 0", web, two, fit)
            for place in range(3):
                words = " ".join(with_thing(["*"] * 3, place, word))
                reader = compiled(f"look 3\n{words} -> 1\n* * * -> 0", web, two)
                for row in web.rows(3):
                    self.assertEqual(reader.arrow(row), fit[row[place]])

    def test_the_first_rule_that_fits_goes(self):
        self.check("look 1\n0 -> 0\n0 -> 1\n* -> 1\n1 -> 0", TWO, TWO, [0, 1])
        self.check("look 1\n* -> 1\n0 -> 0", TWO, TWO, [1, 1])
        self.check("look 1\n!0 -> 0\n* -> 1\n!* -> 1", TWO, TWO, [1, 0])

    def test_rules_that_fit_several_rows(self):
        self.check("look 2\n* 0 -> 0\n* 1 -> 1\n* 2 -> 2", GOLDEN, GOLDEN, [0, 1, 2, 0, 1])
        self.check("look 2\n* b1 -> 2\n* e1 -> 1\n* * -> 0", GOLDEN, GOLDEN, [0, 1, 2, 0, 1])

    def test_the_window_is_as_told(self):
        for window in range(1, 7):
            words = " ".join(["*"] * (window - 1))
            reader = compiled(f"look {window}\n0 {words}".rstrip() + f" -> 1\n!0 {words}".rstrip() + " -> 0", TWO, TWO)
            self.assertEqual((reader.window(), reader.least().window()), (window, 1))
            self.assertEqual(repr(reader), f"Reader({window} ahead, {2 ** window} rows)")

    def test_by_name(self):
        text = "look 1\n* -> 0"
        self.assertEqual(compiled(other=TWO, text=text, web=GOLDEN), compiled(text, GOLDEN, TWO))
        self.assertEqual(reader_text(reader=same(TWO)), reader_text(same(TWO)))

    def test_numbers_of_several_figures(self):
        web = Web(12, [(room, (room + 1) % 12) for room in range(12)])
        self.check("look 1\n10 -> 1\nb11 -> 0\ne10 -> 1\n!e11 -> 1\n* -> 0", web, TWO, [1] * 10 + [1, 0])


class Refusals(Case):
    def bad(self, at, text, web=TWO, other=TWO):
        self.refused(BadText, {"at": at}, compiled, text, web, other)
        self.assertEqual(slow_compiled(text, web, other), (BadText, at))

    def many(self, most, text, web=TWO, other=TWO):
        self.refused(TooMany, {"most": most}, compiled, text, web, other)

    def test_first_rows(self):
        rule = "\n* -> 0"
        for head in ("", "look", "look ", "look 0", "look 01", "look 00", "look -1", "look +1", "look 1 ", " look 1",
                     "look  1", "Look 1", "look1", "look 1 1", "look *", "look 0x1", "look 1000000", "look 9999999",
                     "look 07", "look 1_0", "1", "look look", "look 1.", "see 1", "look \u0661", "look \u00b2",
                     "look 1\t", "look\t1", "* -> 0", "\nlook 1"):
            self.bad(0, head + rule)
            self.bad(0, head + "\n")

    def test_windows_that_are_too_great(self):
        for window in (7, 8, 10, 60, 600, 999999):
            words = " ".join(["*"] * min(window, 9))
            for rest in ("", "\n", f"\n{words} -> 0", "\n* -> 0", "\nx", f"\n{words} -> 9"):
                self.many(6, f"look {window}{rest}")
                # Both are due in the greater web, and the window comes first.
                self.many(6, f"look {window}{rest}", Web(*ROWS_601_OF_2))

    def test_rows_that_are_too_many(self):
        for few, more, window in ((ROWS_600_OF_2, ROWS_601_OF_2, 2), (ROWS_600_OF_6, ROWS_601_OF_6, 6)):
            words = " ".join(["*"] * window)
            self.assertEqual(len(compiled(f"look {window}\n{words} -> 1", Web(*few), TWO)), 600)
            for rest in ("", "\n", f"\n{words} -> 1", f"\n{words} -> 2", "\nx"):
                self.many(600, f"look {window}{rest}", Web(*more))
            self.refused(BadText, {"at": 1}, compiled, f"look {window}\nx", Web(*few), TWO)

    def test_rules(self):
        for rule in ("", "* -> ", "-> 0", "* 0", "* - 0", "* => 0", "*->0", "* ->0", "*  -> 0", " * -> 0", "* -> 0 ",
                     "* -> 0 0", "* -> *", "* -> !0", "* -> b0", "* -> -> 0", "* * -> 0", "* -> 00", "* -> 01",
                     "* -> +0", "* -> -0", "* -> -1", "* -> 2", "* -> 999999", "* -> 1000000", "00 -> 0", "01 -> 0",
                     "2 -> 0", "!2 -> 0", "-1 -> 0", "999999 -> 0", "0000000 -> 0", "b1 -> 0", "e1 -> 0", "!b1 -> 0",
                     "b00 -> 0", "e01 -> 0", "b -> 0", "e -> 0", "! -> 0", "!! -> 0", "!!0 -> 0", "!!* -> 0",
                     "** -> 0", "*! -> 0", "b! -> 0", "b!0 -> 0", "b* -> 0", "B0 -> 0", "a0 -> 0", "0b -> 0",
                     "eb0 -> 0", "look 1", "x", "\u0660 -> 0", "* -> \u0660", "b\u0660 -> 0", "\u00b9 -> 0",
                     "* -> 0\t", "*\t-> 0", "b1000000 -> 0", "0, -> 0", "0 -> 0."):
            self.bad(1, "look 1\n" + rule)
            self.bad(2, "look 1\n* -> 0\n" + rule)
            self.bad(1, "look 1\n" + rule + "\n* -> 0")
            self.bad(2, "look 1\n0 -> 0\n" + rule + "\n1 -> 9\nx")

    def test_arrows_are_of_the_web_and_of_the_other_one(self):
        self.assertEqual(compiled("look 1\n2 -> 1\n* -> 0", GOLDEN, TWO).table(), {(0,): 0, (1,): 0, (2,): 1})
        self.bad(1, "look 1\n2 -> 1\n* -> 0", TWO, GOLDEN)
        self.bad(1, "look 1\n1 -> 2\n* -> 0", GOLDEN, TWO)
        self.bad(2, "look 1\n* -> 0\nb1 -> 0", TWO, GOLDEN)

    def test_a_line_feed_behind(self):
        self.bad(2, "look 1\n* -> 0\n")
        self.bad(1, "look 1\n")
        self.bad(3, "look 1\n* -> 0\n* -> 1\n")
        self.bad(2, "look 1\n* -> 0\n\n")

    def test_rows_of_arrows_without_a_rule(self):
        self.bad(1, "look 1")
        self.bad(2, "look 1\n0 -> 0")
        self.bad(3, "look 1\n0 -> 0\n!* -> 1")
        self.bad(4, "look 2\n0 * -> 0\n1 0 -> 0\n0 1 -> 1")
        self.bad(2, "look 1\n!* -> 0")
        # All rows of arrows have a rule here, though not all pairs of arrows do.
        self.assertEqual(len(compiled("look 2\n0 b0 -> 0\n1 2 -> 0\n2 * -> 0", GOLDEN, TWO)), 5)

    def test_tables(self):
        for rules, row in (("* -> 1", (0, 0)), ("0 -> 0\n1 -> 1\n2 -> 1", (1, 2)), ("!2 -> 0\n* -> 2", (1, 2)),
                           ("0 -> 0\n1 -> 0\n2 -> 1", (2, 0))):
            text = "look 1\n" + rules
            self.refused(BadTable, {"row": row}, compiled, text, GOLDEN, GOLDEN)
            self.assertEqual(slow_compiled(text, GOLDEN, GOLDEN), (BadTable, row))
        # A row that cannot stand there, and a row without a rule, come first.
        self.bad(3, "look 1\n0 -> 0\n2 -> 1\nx", GOLDEN, GOLDEN)
        self.bad(3, "look 1\n0 -> 1\n1 -> 1", GOLDEN, GOLDEN)

    def test_bent_texts(self):
        kinds = {}
        for text, web, other in ((TEXT, TWO, GOLDEN), ("look 1\n0 -> 0\ne1 -> 1\n!b0 -> 2", GOLDEN, GOLDEN),
                                 ("look 2\n* b1 -> 2\n* e1 -> 1\n* * -> 0", GOLDEN, GOLDEN)):
            self.assertIn(slow_compiled(text, web, other)[0], (1, 2, 3))
            for rows in bends(text):
                bent = "\n".join(rows)
                wanted = slow_compiled(bent, web, other)
                self.assertEqual(told(bent, web, other), wanted, bent)
                kinds[wanted[0]] = kinds.get(wanted[0], 0) + 1
        # There are all kinds of answers among them, not only one.
        for kind in (BadText, TooMany, BadTable, 1, 2, 3):
            self.assertGreater(kinds[kind], 2, kind)

    def test_texts_that_no_one_has_chosen(self):
        chance = Chance(19)
        words = ("*", "0", "1", "2", "b0", "b1", "e0", "e1", "!0", "!b0", "!e1", "!*", "3", "b2")
        whole = 0
        for step in range(1500):
            web, other = Web(*chance.random.choice(SMALL)), Web(*chance.random.choice(SMALL[:3]))
            window = chance.random.randrange(1, 4)
            rules = [" ".join(chance.random.choices(words, k=window) + ["->", str(chance.random.randrange(len(other)))])
                     for rule in range(chance.random.randrange(5))]
            rules.append(" ".join(["*"] * window + ["->", "0"]))
            text = "\n".join([f"look {window}"] + rules)
            wanted = slow_compiled(text, web, other)
            self.assertEqual(told(text, web, other), wanted, text)
            whole += wanted[0] == window
        self.assertGreater(whole, 200)


class Texts(Case):
    def test_texts_as_told(self):
        self.assertEqual(reader_text(same(GOLDEN)), "look 1\n0 -> 0\n1 -> 1\n2 -> 2")
        step = reader_by(GOLDEN, GOLDEN, 2, lambda row: row[1])
        self.assertEqual(reader_text(step), "look 2\n0 0 -> 0\n0 1 -> 1\n1 2 -> 2\n2 0 -> 0\n2 1 -> 1")
        self.assertIs(type(reader_text(step)), str)

    def test_rows_rise_as_numbers(self):
        web = Web(*loops(12))
        rows = reader_text(same(web)).split("\n")
        self.assertEqual(rows[1:], [f"{arrow} -> {arrow}" for arrow in range(12)])

    def test_the_least_form_is_told(self):
        for web, window in itertools.product((TWO, GOLDEN), (2, 4, 6)):
            self.assertEqual(reader_text(wider(same(web), window)), reader_text(same(web)))

    def test_there_and_back(self):
        readers = [rule_reader(number) for number in range(0, 256, 7)]
        step = reader_by(GOLDEN, GOLDEN, 2, lambda row: row[1])
        readers += [same(Web(*arrows)) for arrows in SMALL] + [step, joined(step, step), wider(step, 5)]
        for reader in readers:
            least = compiled(reader_text(reader), reader.web(), reader.other())
            self.assertEqual(least, reader)
            self.assertEqual(least.window(), reader.least().window())
            self.assertEqual(least.table(), reader.least().table())
            self.assertEqual(reader_text(least), reader_text(reader))

    def test_six_hundred_rules(self):
        web = Web(*ROWS_600_OF_6)
        reader = Reader(web, web, 6, {row: row[5] for row in web.rows(6)})
        self.assertEqual(reader_text(reader).count("\n"), 600)
        self.assertEqual(compiled(reader_text(reader), web, web), reader)


if __name__ == "__main__":
    unittest.main()
