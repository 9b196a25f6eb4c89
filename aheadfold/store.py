"""The store: webs, readers and walkers by names, and deeds that can be taken back.

The things of a store are a dict from names to triples (kind, thing, homes),
homes being the names of the webs from which and to which a reader leads, or
in which a walker goes. Such a dict is never changed, each deed makes a new
one: so steps and twins can keep it, and what is refused changes nothing.
"""

from aheadfold.alike import need_small
from aheadfold.errors import (Apart, BadDeed, BadName, FoldError, Full, Lost, NoName, NoReader, NothingLeft, NoWalker,
                              NoWeb, Stopped, Taken, Used)
from aheadfold.folds import fold_codes, named_codes, split, split_codes
from aheadfold.judging import way_back
from aheadfold.readers import joined
from aheadfold.tongue import compiled
from aheadfold.walkers import Walker
from aheadfold.webs import Web

WEB = "web"
READER = "reader"
WALKER = "walker"
KINDS = ("web", "reader", "walker")
MOST_OF = {"web": 6, "reader": 8, "walker": 8}
LETTERS = "abcdefghijklmnopqrstuvwxyz"
MOST_LETTERS = 8


def is_name(name):
    """Whether a thing is a name: 1 to 8 small letters."""
    if not isinstance(name, str):
        return False
    strange = [sign for sign in name if sign not in LETTERS]
    return len(strange) == 0 and 1 <= len(name) <= MOST_LETTERS


def need_free(things, name):
    """Refuse what is no name, then a name that is taken."""
    if not is_name(name):
        raise BadName()
    if name in things:
        raise Taken()


def is_there(things, name, kind):
    """Whether a thing of this kind has the name."""
    return name in things and things[name][0] == kind


def web_of(things, name):
    """The web by a name."""
    if not is_there(things, name, WEB):
        raise NoWeb(name)
    return things[name][1]


def reader_of(things, name):
    """The reader by a name."""
    if not is_there(things, name, READER):
        raise NoReader(name)
    return things[name][1]


def walker_of(things, name):
    """The walker by a name."""
    if not is_there(things, name, WALKER):
        raise NoWalker(name)
    return things[name][1]


def count_of(things, kind):
    """How many things of a kind there are."""
    return len([name for name in things if things[name][0] == kind])


def counts_text(things):
    """The words for how many things of each kind there are."""
    return ", ".join([f"{count_of(things, kind)} {kind}s" for kind in KINDS])


def placed(things, name, kind, thing, homes):
    """The things with one more, where there is a place for it."""
    if count_of(things, kind) >= MOST_OF[kind]:
        raise Full()
    return {**things, name: (kind, thing, homes)}


def made_of(things, reader, walker):
    """The walker that a reader makes of a walker, both told by their names."""
    maker = reader_of(things, reader)
    goer = walker_of(things, walker)
    # Webs that are equal are still two webs of the store, so their names are compared.
    if things[reader][2][0] != things[walker][2][0]:
        raise Apart()
    return maker.made(goer)


def carried(entry, name, there, back):
    """A thing of the store behind a turn of the web by that name, with the codes of the turn."""
    kind, thing, homes = entry
    if name not in homes:
        return entry
    if kind == WALKER:
        return kind, there.made(thing), homes
    if homes[0] == name:
        thing = joined(back, thing)
    if homes[1] == name:
        thing = joined(thing, there)
    return kind, thing, homes


def turned(things, name, there, back):
    """The things behind a turn of the web by that name: what goes along is carried, by rising names."""
    fresh = {other: carried(things[other], name, there, back) for other in sorted(things)}
    fresh[name] = (WEB, there.other(), ())
    return fresh


def do_web(things, deed):
    """A new web."""
    word, name, rooms, arrows = deed
    need_free(things, name)
    web = Web(rooms, arrows)
    need_small(web)
    return placed(things, name, WEB, web, ())


def do_walker(things, deed):
    """A new walker in a web."""
    word, name, home, ahead, ring = deed
    need_free(things, name)
    walker = Walker(web_of(things, home), ahead, ring)
    return placed(things, name, WALKER, walker, (home,))


def do_reader(things, deed):
    """A new reader, by its text."""
    word, name, home, goal, text = deed
    need_free(things, name)
    web = web_of(things, home)
    reader = compiled(text, web, web_of(things, goal))
    return placed(things, name, READER, reader.least(), (home, goal))


def do_join(things, deed):
    """A new reader: two joined."""
    word, name, one, other = deed
    need_free(things, name)
    near = reader_of(things, one)
    far = reader_of(things, other)
    if things[one][2][1] != things[other][2][0]:
        raise Apart()
    return placed(things, name, READER, joined(near, far), (things[one][2][0], things[other][2][1]))


def do_back(things, deed):
    """A new reader: the way back of one."""
    word, name, one = deed
    need_free(things, name)
    back = way_back(reader_of(things, one))
    home, goal = things[one][2]
    return placed(things, name, READER, back, (goal, home))


def do_make(things, deed):
    """A new walker: what a reader makes of one."""
    word, name, reader, walker = deed
    need_free(things, name)
    made = made_of(things, reader, walker)
    return placed(things, name, WALKER, made, (things[reader][2][1],))


def do_split(things, deed):
    """A room of a web split."""
    word, name, room, part = deed
    web = web_of(things, name)
    need_small(split(web, room, part))
    there, back = split_codes(web, room, part)
    return turned(things, name, there, back)


def do_fold(things, deed):
    """Two rooms of a web folded."""
    word, name, one, other = deed
    there, back = fold_codes(web_of(things, name), one, other)
    return turned(things, name, there, back)


def do_name(things, deed):
    """Other numbers for the rooms and arrows of a web."""
    word, name, rooms, arrows = deed
    there, back = named_codes(web_of(things, name), rooms, arrows)
    return turned(things, name, there, back)


def do_go(things, deed):
    """A walker goes on."""
    word, name, many = deed
    walker = walker_of(things, name).later(many)
    return {**things, name: (WALKER, walker, things[name][2])}


def do_drop(things, deed):
    """A thing goes, where nothing else needs it."""
    word, name = deed
    if name not in things:
        raise NoName(name)
    for other in sorted(things):
        if name in things[other][2]:
            raise Used(other)
    return {other: things[other] for other in things if other != name}


ACTIONS = {
    "web": do_web, "walker": do_walker, "reader": do_reader, "join": do_join, "back": do_back, "make": do_make,
    "split": do_split, "fold": do_fold, "name": do_name, "go": do_go, "drop": do_drop,
}
# How many things each deed has, its word among them.
COUNTS = {
    "web": 4, "walker": 5, "reader": 5, "join": 4, "back": 3, "make": 4,
    "split": 4, "fold": 4, "name": 4, "go": 3, "drop": 2,
}


def frozen(thing):
    """A thing with tuples for all lists in it, which no later change can reach."""
    if isinstance(thing, (list, tuple)):
        return tuple([frozen(part) for part in thing])
    return thing


def told_deed(deed):
    """A deed with tuples for lists in it, where it is one."""
    if not isinstance(deed, tuple) or len(deed) == 0 or not isinstance(deed[0], str):
        raise BadDeed()
    if deed[0] not in COUNTS or len(deed) != COUNTS[deed[0]]:
        raise BadDeed()
    return frozen(deed)


def done(things, deed):
    """The things behind a deed that has been told."""
    action = ACTIONS[deed[0]]
    return action(things, deed)


class Store:
    """Webs, readers and walkers by names, and the steps that led to them."""

    def __init__(self):
        self.things = {}
        # Pairs of a deed and the things ahead of it, or, of what was taken back, behind it.
        self.past = []
        self.future = []

    def __eq__(self, other):
        return isinstance(other, Store) and self.things == other.things

    def __len__(self):
        return len(self.things)

    def __repr__(self):
        return f"Store({counts_text(self.things)})"

    def do(self, deed):
        """Do one deed, as one step."""
        told = told_deed(deed)
        self.stepped(told, done(self.things, told))

    def many(self, deeds):
        """Do several deeds as one step, or none of them where one is refused."""
        things = self.things
        told = []
        for at, deed in enumerate(deeds):
            try:
                told.append(told_deed(deed))
                things = done(things, told[at])
            except (FoldError, Lost) as e:
                raise Stopped(at, e.word) from e
        self.stepped(("many", tuple(told)), things)

    def stepped(self, deed, things):
        """Keep a step that is done; what was taken back is let go."""
        self.past.append((deed, self.things))
        self.future = []
        self.things = things

    def undo(self):
        """Take the last step back, and tell its deed."""
        if len(self.past) == 0:
            raise NothingLeft()
        deed, things = self.past.pop()
        self.future.append((deed, self.things))
        self.things = things
        return deed

    def redo(self):
        """Do again what was taken back last, and tell its deed."""
        if len(self.future) == 0:
            raise NothingLeft()
        deed, things = self.future.pop()
        self.past.append((deed, self.things))
        self.things = things
        return deed

    def names(self):
        """The rising list of pairs (name, kind)."""
        return [(name, self.things[name][0]) for name in sorted(self.things)]

    def web(self, name):
        """The web by a name."""
        return web_of(self.things, name)

    def reader(self, name):
        """The reader by a name, in least form."""
        return reader_of(self.things, name)

    def walker(self, name):
        """The walker by a name."""
        return walker_of(self.things, name)

    def ends(self, name):
        """The names of the webs from which and to which a reader leads."""
        reader_of(self.things, name)
        return self.things[name][2]

    def goes_in(self, name):
        """The name of the web in which a walker goes."""
        walker_of(self.things, name)
        return self.things[name][2][0]

    def made(self, reader, walker):
        """What the reader by a name makes of the walker by a name."""
        return made_of(self.things, reader, walker)

    def steps(self):
        """How many steps can be taken back, and how many done again."""
        return len(self.past), len(self.future)

    def twin(self):
        """A store with all of it; from then on neither changes the other."""
        other = self.without_steps()
        other.past = list(self.past)
        other.future = list(self.future)
        return other

    def without_steps(self):
        """A store with the same things, and no steps."""
        other = Store()
        other.things = self.things
        return other
