"""The desk: a store that is told and asked by lines of words."""

from aheadfold.alike import alike
from aheadfold.errors import FoldError, Lost, NothingLeft
from aheadfold.judging import is_one, reaches
from aheadfold.pages import row_of, told_by, walk_text
from aheadfold.store import Store

# For each first word what the words behind it tell, and what all words behind these tell, one at least.
LINE_FORMS = {
    "web": (("name", "number"), "pair"),
    "walker": (("name", "name", "ahead", "ring"), None),
    "join": (("name", "name", "name"), None),
    "back": (("name", "name"), None),
    "make": (("name", "name", "name"), None),
    "split": (("name", "number"), "number"),
    "fold": (("name", "number", "number"), None),
    "go": (("name", "number"), None),
    "drop": (("name",), None),
    "undo": ((), None),
    "redo": ((), None),
    "names": ((), None),
    "show": (("name",), None),
    "one": (("name",), None),
    "reach": (("name",), None),
    "alike": (("name", "name"), None),
    "made": (("name", "name"), None),
}


def told_line(line):
    """The tuple of the first word of a line and what the others tell, or None where it is no such line."""
    words = line.split(" ")
    # Any word is taken for a name, so empty ones and line feeds must be kept out here.
    if "" in words or "\n" in line or words[0] not in LINE_FORMS:
        return None
    told = told_by(LINE_FORMS[words[0]], words[1:])
    return None if told is None else (words[0], *told)


def yes_or_no(truth):
    """The word for a truth."""
    return "yes" if truth else "no"


def say_undo(store, told):
    """Take the last step back."""
    store.undo()
    return "done"


def say_redo(store, told):
    """Do again what was taken back last."""
    store.redo()
    return "done"


def say_names(store, told):
    """All names, or that there are none."""
    names = [name for name, kind in store.names()]
    return " ".join(names) if len(names) > 0 else "none"


def say_show(store, told):
    """The row of a thing."""
    return row_of(store, told[1])


def say_one(store, told):
    """Whether a reader is one to one."""
    return yes_or_no(is_one(store.reader(told[1])))


def say_reach(store, told):
    """Whether a reader reaches."""
    return yes_or_no(reaches(store.reader(told[1])))


def say_alike(store, told):
    """Whether two webs are alike."""
    one = store.web(told[1])
    return yes_or_no(alike(one, store.web(told[2]))[0] == "alike")


def say_made(store, told):
    """What a reader makes of a walker."""
    return walk_text(store.made(told[1], told[2]))


ANSWERS = {
    "undo": say_undo, "redo": say_redo, "names": say_names, "show": say_show, "one": say_one, "reach": say_reach,
    "alike": say_alike, "made": say_made,
}


def answer(store, told):
    """The answer to a line that has been told; what is no question is a deed."""
    if told[0] not in ANSWERS:
        store.do(told)
        return "done"
    ask = ANSWERS[told[0]]
    return ask(store, told)


class Desk:
    """A store of its own, and the answers to lines."""

    def __init__(self, store=None):
        self.kept = Store() if store is None else store.twin()

    def store(self):
        """A twin of its store."""
        return self.kept.twin()

    def say(self, line):
        """The answer to a line."""
        told = told_line(line)
        if told is None:
            return "what"
        try:
            return answer(self.kept, told)
        except (FoldError, Lost, NothingLeft) as e:
            return f"no {e.word}"
