"""Finer webs, from which rows of folds lead to both webs of a reader."""

from aheadfold.errors import BadFold, BadNaming, BadRoom, TooMany
from aheadfold.folds import folded, folds_down, images_of, named
from aheadfold.judging import head, tail, way_back
from aheadfold.webs import MOST_ARROWS, MOST_ROOMS, MOST_ROWS, Web


def need_few(things, most):
    """Refuse more things than a web has."""
    if len(things) > most:
        raise TooMany(most)


def fine_steps(reader):
    """The arrows of the finer web, one for each row of the table: (row, arrow made, begin, end).

    A room of it is a pair, an end and the room in which what is made behind
    it begins. That is enough: as the reader is one to one, the end behind a
    row and the arrow made of it tell the row.
    """
    web = reader.web()
    other = reader.other()
    return [(row, arrow, (head(web, row), other.begin(arrow)), (tail(web, row), other.end(arrow)))
            for row, arrow in reader.table().items()]


def descent_to(web, places, labels):
    """The descent from a web to the one in which its rooms have these places and its arrows these labels."""
    # Folded are the first arrows with the first ones: ordered by their labels they are alike.
    order = [arrow for label, arrow in sorted([(label, arrow) for arrow, label in enumerate(labels)])]
    numbers = {arrow: at for at, arrow in enumerate(order)}
    first = (list(range(web.rooms())), [numbers[arrow] for arrow in range(len(web))])
    folds, rooms = folds_down(named(web, first[0], first[1]), places, [labels[arrow] for arrow in order])
    # Folds leave the order as it is, so that at last each arrow stands where its label says.
    small = len(set(labels))
    return first, folds, (rooms, list(range(small)))


def first_rooms(web, rooms):
    """For each room of the finer web the room of the first web in which its walks begin."""
    return [end if isinstance(end, int) else web.begin(end[0]) for end, place in rooms]


def finer(reader):
    """A finer paper of a reader that has a way back."""
    way_back(reader)
    least = reader.least()
    steps = fine_steps(least)
    rooms = sorted(set([begin for row, arrow, begin, end in steps]))
    need_few(rooms, MOST_ROOMS)
    need_few(steps, MOST_ARROWS)
    numbers = {room: at for at, room in enumerate(rooms)}
    web = Web(len(rooms), [(numbers[begin], numbers[end]) for row, arrow, begin, end in steps])
    if web.many(least.window()) > MOST_ROWS:
        raise TooMany(MOST_ROWS)
    near = descent_to(web, first_rooms(least.web(), rooms), [row[0] for row, arrow, begin, end in steps])
    far = descent_to(web, [place for end, place in rooms], [arrow for row, arrow, begin, end in steps])
    return web, near, far


def leads_to(web, descent, goal):
    """Whether a descent leads from a web to another one."""
    first, folds, last = descent
    try:
        small = folded(named(web, first[0], first[1]), folds)
        return named(small, last[0], last[1]) == goal
    except (BadFold, BadNaming, BadRoom):
        return False


def descended(web, descent):
    """For each arrow its image under a descent that leads to some web."""
    first, folds, last = descent
    images = images_of(named(web, first[0], first[1]), folds)
    return [last[1][images[number]] for number in first[1]]


def finer_holds(reader, paper):
    """Whether a finer paper of the reader holds."""
    web, near, far = paper
    if not leads_to(web, near, reader.web()) or not leads_to(web, far, reader.other()):
        return False
    rows = web.rows(reader.window())
    nears = descended(web, near)
    fars = descended(web, far)
    wrong = [row for row in rows if reader.arrow([nears[arrow] for arrow in row]) != fars[row[0]]]
    return len(wrong) == 0
