"""Folds, splits and namings of webs, and the readers that go along with them."""

from aheadfold.errors import BadFold, BadNaming, BadPart, TooMany
from aheadfold.readers import Reader
from aheadfold.webs import MOST_ARROWS, MOST_ROOMS, MOST_ROWS, Web


def ways_in(web, room):
    """The pairs (room, arrow) of the arrows that lead to a room, by the rooms where they begin."""
    return sorted([(web.begin(arrow), arrow) for arrow in web.ins(room)])


def begins_of(web, room):
    """The rooms from which arrows lead to a room, rising, each as often as it has such arrows."""
    return [begin for begin, arrow in ways_in(web, room)]


def folds_of(web):
    """The rising list of pairs of rooms that fold."""
    rooms = list(range(web.rooms()))
    begins = [begins_of(web, room) for room in rooms]
    return [(one, other) for one in rooms for other in rooms[one + 1:] if begins[one] == begins[other]]


def need_fold(web, one, other):
    """Refuse what are no rooms, then rooms that do not fold."""
    web.need_room(one)
    web.need_room(other)
    if one >= other or begins_of(web, one) != begins_of(web, other):
        raise BadFold()


def kept_arrows(web, other):
    """The arrows that stay when a room becomes a lesser one: all that do not lead to it."""
    return [arrow for arrow in range(len(web)) if web.end(arrow) != other]


def youngers_of(web, one, other):
    """For each arrow to the lesser room the one to the greater room that is one with it."""
    # Ordered by their begins, and then by their numbers, the first stands beside the first.
    elders = ways_in(web, one)
    youngers = ways_in(web, other)
    return {elder[1]: younger[1] for elder, younger in zip(elders, youngers)}


def fold_images(web, one, other):
    """For each arrow its number in the folded web."""
    numbers = {arrow: at for at, arrow in enumerate(kept_arrows(web, other))}
    for elder, younger in youngers_of(web, one, other).items():
        numbers[younger] = numbers[elder]
    return [numbers[arrow] for arrow in range(len(web))]


def fold_room(room, one, other):
    """The number of a room in the folded web."""
    if room == other:
        return one
    return room - 1 if room > other else room


def fold(web, one, other):
    """The web in which the greater room is the lesser one."""
    need_fold(web, one, other)
    rooms = [fold_room(room, one, other) for room in range(web.rooms())]
    arrows = [(rooms[web.begin(arrow)], rooms[web.end(arrow)]) for arrow in kept_arrows(web, other)]
    return Web(web.rooms() - 1, arrows)


def fold_codes(web, one, other):
    """The readers to the folded web and back, in least form."""
    small = fold(web, one, other)
    kept = kept_arrows(web, other)
    youngers = youngers_of(web, one, other)
    back = {}
    for row in small.rows(2):
        elder = kept[row[0]]
        # The room in which the next arrow began tells which of the two rooms was meant.
        back[row] = youngers[elder] if web.begin(kept[row[1]]) == other else elder
    there = {(arrow,): image for arrow, image in enumerate(fold_images(web, one, other))}
    return Reader(web, small, 1, there), Reader(small, web, 2, back).least()


def need_part(web, room, part):
    """Refuse what is no room, then what is not some, but not all, of the arrows out of it, each once."""
    outs = web.outs(room)
    strange = [arrow for arrow in part if arrow not in outs]
    if len(strange) > 0 or len(set(part)) != len(part) or not 0 < len(part) < len(outs):
        raise BadPart()


def split(web, room, part):
    """The web in which a part of the arrows out of a room begins in a new one."""
    need_part(web, room, part)
    if web.rooms() >= MOST_ROOMS:
        raise TooMany(MOST_ROOMS)
    elders = web.ins(room)
    if len(web) + len(elders) > MOST_ARROWS:
        raise TooMany(MOST_ARROWS)
    fresh = web.rooms()
    arrows = [(fresh if arrow in part else web.begin(arrow), web.end(arrow)) for arrow in range(len(web))]
    more = [(arrows[elder][0], fresh) for elder in elders]
    return Web(fresh + 1, arrows + more)


def split_codes(web, room, part):
    """The readers to the split web and back, in least form."""
    great = split(web, room, part)
    back, there = fold_codes(great, room, web.rooms())
    return there, back


def need_naming(web, rooms, arrows):
    """Refuse what does not tell each number of a room and of an arrow just once."""
    if sorted(rooms) != list(range(web.rooms())) or sorted(arrows) != list(range(len(web))):
        raise BadNaming()


def named(web, rooms, arrows):
    """The web in which room k has the number rooms[k], and arrow k the number arrows[k]."""
    need_naming(web, rooms, arrows)
    places = {number: arrow for arrow, number in enumerate(arrows)}
    olds = [places[number] for number in range(len(web))]
    return Web(web.rooms(), [(rooms[web.begin(old)], rooms[web.end(old)]) for old in olds])


def named_codes(web, rooms, arrows):
    """The readers to the named web and back, in least form."""
    fresh = named(web, rooms, arrows)
    if fresh.many(2) > MOST_ROWS:
        raise TooMany(MOST_ROWS)
    there = {(arrow,): number for arrow, number in enumerate(arrows)}
    back = {(number,): arrow for arrow, number in enumerate(arrows)}
    return Reader(web, fresh, 1, there), Reader(fresh, web, 1, back)


def folded(web, folds):
    """The web behind a row of folds."""
    for one, other in folds:
        web = fold(web, one, other)
    return web


def images_of(web, folds):
    """For each arrow its number in the web behind a row of folds, which is known to be one."""
    images = list(range(len(web)))
    for one, other in folds:
        numbers = fold_images(web, one, other)
        images = [numbers[image] for image in images]
        web = fold(web, one, other)
    return images


def classes(web):
    """The classes of alike rooms, by their least rooms."""
    rooms = list(range(web.rooms()))
    firsts = rooms
    while True:
        # Rooms are alike as soon as the classes of the rooms ahead of them are.
        ahead = [sorted([firsts[begin] for begin in begins_of(web, room)]) for room in rooms]
        fewer = [ahead.index(begins) for begins in ahead]
        if fewer == firsts:
            return [[room for room in rooms if firsts[room] == first] for first in rooms if firsts[first] == first]
        firsts = fewer


def total(web):
    """The web folded until nothing folds, always the first pair that folds, and the row of folds."""
    folds = []
    pairs = folds_of(web)
    while len(pairs) > 0:
        folds.append(pairs[0])
        web = fold(web, pairs[0][0], pairs[0][1])
        pairs = folds_of(web)
    return web, folds


def first_alike(web, places, labels):
    """The first pair of rooms with one place, and with the same labels of arrows from the same rooms."""
    seen = {}
    for room in range(web.rooms()):
        ways = sorted([(begin, labels[arrow]) for begin, arrow in ways_in(web, room)])
        look = (places[room], tuple(ways))
        if look in seen:
            return seen[look], room
        seen[look] = room
    return None


def folds_down(web, places, labels):
    """Folds that make the rooms with one place one, and the places of the rooms behind them.

    The labels are the arrows' images in the web that is to be reached, the
    places are those of the rooms: they keep a fold from making one what is to stay two.
    """
    folds = []
    places = list(places)
    pair = first_alike(web, places, labels)
    while pair is not None:
        folds.append(pair)
        del places[pair[1]]
        labels = [labels[arrow] for arrow in kept_arrows(web, pair[1])]
        web = fold(web, pair[0], pair[1])
        pair = first_alike(web, places, labels)
    return folds, places
