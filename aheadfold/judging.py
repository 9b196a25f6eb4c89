"""Whether a reader is one to one, whether it makes every walk, and its way back."""

from aheadfold.errors import BadWindow, NotBack, TooMany
from aheadfold.readers import Reader
from aheadfold.walkers import Walker
from aheadfold.webs import MOST_ROWS, MOST_WINDOW

MOST_PAIRS = 2000
MOST_SETS = 2000
# What stands for any room in a pair of a paper of reaching.
ANY_ROOM = -1


def need_most(most, bound):
    """Refuse a bound of a search that is not 1 to the greatest one."""
    if not 1 <= most <= bound:
        raise BadWindow()


def head(web, row):
    """The end of which a row of the window's length comes."""
    return row[:-1] if len(row) > 1 else web.begin(row[0])


def tail(web, row):
    """The end that comes by a row of the window's length."""
    return row[1:] if len(row) > 1 else web.end(row[0])


def ends_of(reader):
    """The rising list of the ends of a reader."""
    web = reader.web()
    return web.rows(reader.window() - 1) if reader.window() > 1 else list(range(web.rooms()))


def sources(reader):
    """For each arrow that is made the rows of which the table makes it."""
    found = {}
    for row, arrow in reader.table().items():
        found.setdefault(arrow, []).append(row)
    return found


def paired_steps(web, made):
    """For each pair of ends the triples (row, row, pair of ends behind) of rows that make one arrow."""
    steps = {}
    for rows in made.values():
        for one in rows:
            for other in rows:
                behind = (tail(web, one), tail(web, other))
                steps.setdefault((head(web, one), head(web, other)), []).append((one, other, behind))
    return steps


def endless(steps):
    """Those of the steps that go on without end."""
    while True:
        led = {ends: [step for step in steps[ends] if step[2] in steps] for ends in steps}
        kept = {ends: led[ends] for ends in led if len(led[ends]) > 0}
        if len(kept) == len(steps):
            return kept
        steps = kept


def parting(steps):
    """The first step whose rows are unlike in their first arrows, or None."""
    for choices in steps.values():
        for step in choices:
            if step[0][0] != step[1][0]:
                return step
    return None


def come_round(steps, step):
    """The steps from one on, until they come round, and the place to which they come back."""
    path = [step]
    places = {}
    ends = step[2]
    while ends not in places:
        places[ends] = len(path)
        path.append(steps[ends][0])
        ends = path[-1][2]
    return path, places[ends]


def twins(reader, *, most=MOST_PAIRS):
    """Two walkers, unlike in their first arrow, of which the same is made, or None."""
    need_most(most, MOST_PAIRS)
    least = reader.least()
    made = sources(least)
    if sum([len(rows) * len(rows) for rows in made.values()]) > most:
        raise TooMany(most)
    web = least.web()
    steps = endless(paired_steps(web, made))
    step = parting(steps)
    if step is None:
        return None
    path, place = come_round(steps, step)
    ones = [pair[0][0] for pair in path]
    others = [pair[1][0] for pair in path]
    return Walker(web, ones[:place], ones[place:]), Walker(web, others[:place], others[place:])


def is_one(reader):
    """Whether the reader makes of unlike walks unlike ones."""
    return twins(reader) is None


def moves_of(reader, ends):
    """For each end, by its number, the pairs (arrow made, number of the end that comes)."""
    web = reader.web()
    numbers = {end: at for at, end in enumerate(ends)}
    moves = [[] for end in ends]
    for row, arrow in reader.table().items():
        moves[numbers[head(web, row)]].append((arrow, numbers[tail(web, row)]))
    return moves


def coming(moves, ends):
    """For each arrow that is made from some of these ends, all ends that come, rising."""
    found = {}
    for end in ends:
        for arrow, behind in moves[end]:
            found.setdefault(arrow, []).append(behind)
    return {arrow: tuple(sorted(set(found[arrow]))) for arrow in found}


def arrows_from(web, room):
    """The arrows that begin in a room, rising; each arrow for any room."""
    return list(range(len(web))) if room == ANY_ROOM else web.outs(room)


def reached(reader, ends, most):
    """The first missing row, or None, and the pairs reached, with numbers for ends."""
    other = reader.other()
    moves = moves_of(reader, ends)
    pairs = [(ANY_ROOM, tuple(range(len(ends))))]
    rows = [()]
    seen = {pairs[0]: True}
    at = 0
    while at < len(pairs):
        found = coming(moves, pairs[at][1])
        for arrow in arrows_from(other, pairs[at][0]):
            if arrow not in found:
                return rows[at] + (arrow,), pairs
            pair = (other.end(arrow), found[arrow])
            if pair not in seen:
                if len(pairs) >= most:
                    raise TooMany(most)
                seen[pair] = True
                pairs.append(pair)
                rows.append(rows[at] + (arrow,))
        at += 1
    return None, pairs


def missing(reader, *, most=MOST_SETS):
    """The first of the shortest rows that stand nowhere in what is made, or None."""
    need_most(most, MOST_SETS)
    least = reader.least()
    return reached(least, ends_of(least), most)[0]


def reaches(reader):
    """Whether each walk of the second web is made."""
    return missing(reader) is None


def sets_of(reader):
    """A paper that the reader reaches, or None."""
    least = reader.least()
    ends = ends_of(least)
    row, pairs = reached(least, ends, MOST_SETS)
    if row is not None:
        return None
    return [(room, tuple([ends[at] for at in numbers])) for room, numbers in pairs]


def numbers_of(ends, known):
    """The numbers of the ends of a pair, or None where they are none, not rising or no ends."""
    numbers = []
    for end in ends:
        told = end if isinstance(end, int) else tuple(end)
        if told not in known:
            return None
        if len(numbers) > 0 and numbers[-1] >= known[told]:
            return None
        numbers.append(known[told])
    return tuple(numbers) if len(numbers) > 0 else None


def pairs_told(sets, ends, rooms):
    """A dict with the pairs of a paper, with numbers for ends; None where one is not formed so."""
    known = {end: at for at, end in enumerate(ends)}
    told = {}
    for room, those in sets:
        numbers = numbers_of(those, known)
        if numbers is None or not (room == ANY_ROOM or 0 <= room < rooms):
            return None
        told[(room, numbers)] = True
    return told


def is_closed(reader, ends, told):
    """Whether with each pair all pairs that come of it are there."""
    other = reader.other()
    moves = moves_of(reader, ends)
    for room, numbers in told:
        found = coming(moves, numbers)
        for arrow in arrows_from(other, room):
            if arrow not in found or (other.end(arrow), found[arrow]) not in told:
                return False
    return True


def sets_hold(reader, sets):
    """Whether a paper of reaching holds."""
    least = reader.least()
    ends = ends_of(least)
    told = pairs_told(sets, ends, least.other().rooms())
    if told is None or (ANY_ROOM, tuple(range(len(ends)))) not in told:
        return False
    return is_closed(least, ends, told)


def longer_starts(starts, moves):
    """The starts of the rows with one arrow more."""
    longer = {}
    for row, pairs in starts.items():
        for first, end in pairs:
            for arrow, behind in moves[end]:
                longer.setdefault(row + (arrow,), []).append((first, behind))
    return longer


def only_firsts(starts):
    """For each row its only first arrow, or None where a row has several."""
    table = {}
    for row, pairs in starts.items():
        for first, end in pairs:
            if table.setdefault(row, first) != first:
                return None
    return table


def undone(reader):
    """The way back of a reader in least form that has one."""
    web = reader.web()
    other = reader.other()
    ends = ends_of(reader)
    numbers = {end: at for at, end in enumerate(ends)}
    moves = moves_of(reader, ends)
    # For each row of the second web: with which arrow what makes it begins, and where it ends.
    starts = {}
    for row, arrow in reader.table().items():
        starts.setdefault((arrow,), []).append((row[0], numbers[tail(web, row)]))
    for window in range(1, MOST_WINDOW + 1):
        if other.many(window) > MOST_ROWS:
            raise TooMany(MOST_ROWS)
        if window > 1:
            starts = longer_starts(starts, moves)
        table = only_firsts(starts)
        if table is not None:
            return Reader(other, web, window, table)
    raise TooMany(MOST_WINDOW)


def way_back(reader):
    """The reader that makes of what is made the walk of which it is made, in least form."""
    if not is_one(reader) or not reaches(reader):
        raise NotBack()
    return undone(reader.least())
