"""Pages: a store as a text, a row for each thing, and back.

A row is read as the deed that makes its thing, and is right where the thing,
written again, gives the very same row.
"""

from aheadfold.errors import BadPage, FoldError, Lost, NoName
from aheadfold.store import KINDS, Store
from aheadfold.tongue import number_of

# For each kind of row what its words tell, and what all words behind these tell, one at least.
ROW_FORMS = {
    "web": (("name", "number"), "pair"),
    "reader": (("name", "name", "name", "number"), "rule"),
    "walker": (("name", "name", "ahead", "ring"), None),
}


def numbers_text(numbers):
    """The numbers of a list with commas between, or `-` for none."""
    return ",".join([str(number) for number in numbers]) if len(numbers) > 0 else "-"


def walk_text(walker):
    """The two words of a walker: arrows ahead, and ring."""
    return f"{numbers_text(walker.ahead())} {numbers_text(walker.ring())}"


def web_row(store, name):
    """The row of a web."""
    web = store.web(name)
    arrows = [f"{begin}>{end}" for begin, end in web.arrows()]
    return " ".join(["web", name, str(web.rooms())] + arrows)


def reader_row(store, name):
    """The row of a reader."""
    reader = store.reader(name)
    home, goal = store.ends(name)
    rules = [f"{numbers_text(row)}:{arrow}" for row, arrow in reader.table().items()]
    return " ".join(["reader", name, home, goal, str(reader.window())] + rules)


def walker_row(store, name):
    """The row of a walker."""
    return f"walker {name} {store.goes_in(name)} {walk_text(store.walker(name))}"


ROWS = {"web": web_row, "reader": reader_row, "walker": walker_row}


def row_of(store, name):
    """The row of the thing by a name."""
    kinds = dict(store.names())
    if name not in kinds:
        raise NoName(name)
    write = ROWS[kinds[name]]
    return write(store, name)


def page(store):
    """The page of a store."""
    rows = [row_of(store, name) for kind in KINDS for name, its in store.names() if its == kind]
    return "".join([row + "\n" for row in rows])


def all_or_none(things):
    """The things, or None where one of them is None."""
    return None if None in things else things


def name_of(word):
    """The word itself: the store tells whether it is a name."""
    return word


def one_number(word):
    """The number that a word tells, or None."""
    return number_of(word)


def ring_of(word):
    """The list of numbers, one at least, that a word tells, or None."""
    return all_or_none([number_of(part) for part in word.split(",")])


def ahead_of(word):
    """The list of numbers, perhaps none, that a word tells, or None."""
    return [] if word == "-" else ring_of(word)


def pair_of(word):
    """The pair of numbers that a word tells, or None."""
    numbers = all_or_none([number_of(part) for part in word.split(">")])
    return None if numbers is None or len(numbers) != 2 else tuple(numbers)


def rule_of(word):
    """The rule of a reader's text that a word tells; whether it is one is told where it is read."""
    row, colon, arrow = word.partition(":")
    return " ".join(row.split(",") + ["->", arrow])


READS = {
    "name": name_of, "number": one_number, "pair": pair_of, "rule": rule_of, "ahead": ahead_of, "ring": ring_of,
}


def told_word(part, word):
    """What a word tells as this part of a row, or None."""
    read = READS[part]
    return read(word)


def told_by(form, words):
    """The list of what words tell by a form, or None where they do not fit it."""
    parts, rest = form
    few = len(parts)
    more = words[few:]
    if len(words) < few or (len(more) > 0) != (rest is not None):
        return None
    things = [told_word(part, word) for part, word in zip(parts, words)]
    if rest is not None:
        things.append(all_or_none([told_word(rest, word) for word in more]))
    return all_or_none(things)


def text_of(window, rules):
    """The text of a reader with this window and these rules."""
    return "\n".join([f"look {window}"] + rules)


def row_deed(row):
    """The deed that makes the thing of a row, or None where the row is none."""
    words = row.split(" ")
    word = words[0]
    told = told_by(ROW_FORMS[word], words[1:]) if word in ROW_FORMS else None
    if told is None:
        return None
    if word == "reader":
        told = told[:3] + [text_of(told[3], told[4])]
    return (word, *told)


def is_read(store, deed, row):
    """Whether a row, the deed of which is done here, is written as the page has it."""
    try:
        store.do(deed)
    except (FoldError, Lost):
        return False
    return row_of(store, deed[1]) == row


def store_of(text):
    """The store of a page, without steps."""
    rows = text.split("\n")
    store = Store()
    last = (0, "")
    for at, row in enumerate(rows[:-1]):
        deed = row_deed(row)
        if deed is None:
            raise BadPage(at)
        place = (KINDS.index(deed[0]), deed[1])
        if place <= last or not is_read(store, deed, row):
            raise BadPage(at)
        last = place
    if rows[-1] != "":
        raise BadPage(len(rows) - 1)
    return store.without_steps()
