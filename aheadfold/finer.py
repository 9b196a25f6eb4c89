"""Finer webs, from which rows of folds lead to both webs of a reader."""

from aheadfold.errors import BadFold, BadNaming, BadRoom, TooMany
from aheadfold.folds import folded, folds_down, images_of, named
from aheadfold.judging import head, tail, way_back
from aheadfold.webs import MOST_ARROWS, MOST_ROOMS, MOST_ROWS, Web


def looked_at(reader):
    """The triples (row, arrow made, room in which that arrow begins) of a table."""
    other = reader.other()
    return [(row, arrow, other.begin(arrow)) for row, arrow in reader.table().items()]


def fine_rooms(reader, many):
    """The rooms of the finer web: triples (end, room of the second web, so many arrows made).

    Each tells what a walk is at first: its end for the reader, the room in
    which what is made begins, and so many arrows of it.
    """
    web = reader.web()
    seen = looked_at(reader)
    rooms = sorted(set([(head(web, row), begin, ()) for row, arrow, begin in seen]))
    need_few(rooms, MOST_ROOMS)
    for step in range(many):
        rooms = sorted(set([
            (head(web, row), begin, (arrow,) + made)
            for row, arrow, begin in seen for end, place, made in rooms if end == tail(web, row)]))
        # More arrows made never tell fewer walks apart, so that there is no need to go on.
        need_few(rooms, MOST_ROOMS)
    return rooms


def need_few(things, most):
    """Refuse more things than a web has."""
    if len(things) > most:
        raise TooMany(most)


def fine_arrows(reader, many, rooms):
    """The arrows of the finer web, rising: (first arrow, arrow made, room where it begins, room where it ends)."""
    web = reader.web()
    numbers = {room: at for at, room in enumerate(rooms)}
    arrows = []
    for row, arrow, begin in looked_at(reader):
        for end, place, made in rooms:
            if end == tail(web, row):
                source = (head(web, row), begin, ((arrow,) + made)[:many])
                arrows.append((row[0], arrow, numbers[source], numbers[(end, place, made)]))
    need_few(arrows, MOST_ARROWS)
    return sorted(arrows)


def descent_to(web, places, labels):
    """The descent from a web to the one in which its rooms have these places and its arrows these labels."""
    # Folded are the first arrows with the first ones: ordered by their labels they are alike.
    order = [arrow for label, arrow in sorted([(label, arrow) for arrow, label in enumerate(labels)])]
    numbers = {arrow: at for at, arrow in enumerate(order)}
    first = (list(range(web.rooms())), [numbers[arrow] for arrow in range(len(web))])
    folds, rooms = folds_down(named(web, first[0], first[1]), places, [labels[arrow] for arrow in order])
    # Folds leave the order as it is, so that at last each arrow stands where its label says.
    small = len(set(labels))
    return first, folds, (rooms, list(range(small)))


def finer(reader):
    """A finer paper of a reader that has a way back."""
    many = way_back(reader).window() - 1
    least = reader.least()
    rooms = fine_rooms(least, many)
    arrows = fine_arrows(least, many, rooms)
    web = Web(len(rooms), [(begin, end) for near, far, begin, end in arrows])
    if web.many(least.window()) > MOST_ROWS:
        raise TooMany(MOST_ROWS)
    source = least.web()
    nears = [end if isinstance(end, int) else source.begin(end[0]) for end, place, made in rooms]
    fars = [place for end, place, made in rooms]
    return (web, descent_to(web, nears, [arrow[0] for arrow in arrows]),
            descent_to(web, fars, [arrow[1] for arrow in arrows]))


def leads_to(web, descent, goal):
    """Whether a descent leads from a web to another one."""
    first, folds, last = descent
    try:
        small = folded(named(web, first[0], first[1]), folds)
        return named(small, last[0], last[1]) == goal
    except (BadFold, BadNaming, BadRoom):
        return False


def descended(web, descent):
    """For each arrow its image under a descent that leads to some web."""
    first, folds, last = descent
    images = images_of(named(web, first[0], first[1]), folds)
    return [last[1][images[number]] for number in first[1]]


def finer_holds(reader, paper):
    """Whether a finer paper of the reader holds."""
    web, near, far = paper
    if not leads_to(web, near, reader.web()) or not leads_to(web, far, reader.other()):
        return False
    rows = web.rows(reader.window())
    nears = descended(web, near)
    fars = descended(web, far)
    wrong = [row for row in rows if reader.arrow([nears[arrow] for arrow in row]) != fars[row[0]]]
    return len(wrong) == 0
