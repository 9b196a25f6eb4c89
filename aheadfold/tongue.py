"""The tongue: readers as texts, with rules that fit rows of arrows."""

from aheadfold.errors import BadText, TooMany
from aheadfold.readers import Reader
from aheadfold.webs import MOST_WINDOW

DIGITS = "0123456789"
MOST_FIGURES = 6


def number_of(word):
    """The number that a word tells, or None where it is not written as one."""
    # Python takes other digits, signs and blanks for numbers, too.
    strange = [sign for sign in word if sign not in DIGITS]
    if len(strange) > 0 or not 1 <= len(word) <= MOST_FIGURES:
        return None
    return None if len(word) > 1 and word[0] == "0" else int(word)


def window_of(row):
    """The window that the first row of a text tells."""
    words = row.split(" ")
    window = number_of(words[1]) if len(words) == 2 and words[0] == "look" else None
    if window is None or window < 1:
        raise BadText(0)
    if window > MOST_WINDOW:
        raise TooMany(MOST_WINDOW)
    return window


def plain_fits(word, web):
    """For each arrow whether a word without `!` fits it, or None where it is no such word."""
    if word == "*":
        return [True] * len(web)
    if word[:1] not in ("b", "e"):
        number = number_of(word)
        known = number is not None and web.has_arrow(number)
        return [arrow == number for arrow in range(len(web))] if known else None
    room = number_of(word[1:])
    if room is None or room >= web.rooms():
        return None
    side = 0 if word[0] == "b" else 1
    return [pair[side] == room for pair in web.arrows()]


def fits_of(word, web):
    """For each arrow whether a word fits it, or None where it is no word."""
    if not word.startswith("!"):
        return plain_fits(word, web)
    but = plain_fits(word[1:], web)
    return None if but is None else [not fit for fit in but]


def rule_of(row, window, web, other):
    """The pair (fits of each word, arrow) of a rule, or None where the row is none."""
    words = row.split(" ")
    if len(words) != window + 2 or words[window] != "->":
        return None
    fits = [fits_of(word, web) for word in words[:window]]
    arrow = number_of(words[window + 1])
    if None in fits or arrow is None or not other.has_arrow(arrow):
        return None
    return fits, arrow


def rules_of(rows, window, web, other):
    """The rules of the rows of a text behind its first one."""
    rules = []
    for at, row in enumerate(rows[1:], start=1):
        rule = rule_of(row, window, web, other)
        if rule is None:
            raise BadText(at)
        rules.append(rule)
    return rules


def fits_row(fits, row):
    """Whether the words of a rule fit the arrows of a row."""
    for fit, arrow in zip(fits, row):
        if not fit[arrow]:
            return False
    return True


def first_arrow(rules, row):
    """The arrow of the first rule that fits a row, or None."""
    for fits, arrow in rules:
        if fits_row(fits, row):
            return arrow
    return None


def compiled(text, web, other):
    """The reader from a web to another one that a text tells, with the window as told."""
    rows = text.split("\n")
    window = window_of(rows[0])
    # Too many rows of arrows are refused ahead of a bad rule, so they are asked for first.
    arrows = web.rows(window)
    rules = rules_of(rows, window, web, other)
    table = {row: first_arrow(rules, row) for row in arrows}
    if None in list(table.values()):
        raise BadText(len(rows))
    return Reader(web, other, window, table)


def rule_text(row, arrow):
    """The rule for one row of arrows."""
    return " ".join([str(word) for word in row] + ["->", str(arrow)])


def reader_text(reader):
    """The text of a reader: a rule for each row of its least form."""
    least = reader.least()
    rules = [rule_text(row, arrow) for row, arrow in least.table().items()]
    return "\n".join([f"look {least.window()}"] + rules)
