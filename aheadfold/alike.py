"""Whether two webs are alike, with papers, and a reader from the one to the other."""

from aheadfold.errors import BadFold, BadNaming, BadRoom, TooMany, Wide
from aheadfold.folds import fold, fold_codes, folded, folds_down, folds_of, images_of, named, total
from aheadfold.readers import Reader, joined
from aheadfold.trees import counts_of, grown, tree_holds
from aheadfold.webs import Web

MOST_TREE = 8000
MOST_ALIKE_ROOMS = 10
MOST_ALIKE_ARROWS = 24


def neighbours(web):
    """For each room the pair of lists of the rooms to which and from which arrows lead."""
    return [([web.end(arrow) for arrow in web.outs(room)], [web.begin(arrow) for arrow in web.ins(room)])
            for room in range(web.rooms())]


def looks_of(near, colours):
    """For each room its colour, and the colours to which and from which arrows lead."""
    return [(colours[room], tuple(sorted([colours[end] for end in behind])),
             tuple(sorted([colours[begin] for begin in ahead])))
            for room, (behind, ahead) in enumerate(near)]


def coloured(near, far, ones, others):
    """Colours of the rooms of both webs, as fine as the handed ones make them; None where they differ.

    A naming that keeps the handed colours keeps these, too.
    """
    while True:
        one_looks = looks_of(near, ones)
        other_looks = looks_of(far, others)
        if sorted(one_looks) != sorted(other_looks):
            return None
        numbers = {look: at for at, look in enumerate(sorted(set(one_looks)))}
        known = len(set(ones))
        ones = [numbers[look] for look in one_looks]
        others = [numbers[look] for look in other_looks]
        if len(numbers) == known:
            return ones, others


def with_colour(colours, room, colour):
    """The colours with another one for a room."""
    return colours[:room] + [colour] + colours[room + 1:]


def naming(one, other):
    """The first list of names for rooms by which as many arrows lead from room to room, or None."""
    rooms = one.rooms()
    if other.rooms() != rooms:
        return None
    near = neighbours(one)
    far = neighbours(other)
    # At first the colour of a room is how many arrows lead from it to itself.
    waiting = [((), [one.leading(room, room) for room in range(rooms)],
                [other.leading(room, room) for room in range(rooms)])]
    tried = 0
    while len(waiting) > 0:
        names, ones, others = waiting.pop()
        tried += 1
        if tried > MOST_TREE:
            raise TooMany(MOST_TREE)
        colours = coloured(near, far, ones, others)
        if colours is not None:
            if len(names) == rooms:
                return list(names)
            waiting.extend(further(names, colours[0], colours[1]))
    return None


def further(names, ones, others):
    """What is to be tried with one name more, the first name last."""
    room = len(names)
    # A colour that no room has marks the two that are named after one another.
    fresh = len(ones)
    choices = [name for name in range(fresh) if others[name] == ones[room]]
    return [(names + (name,), with_colour(ones, room, fresh), with_colour(others, name, fresh))
            for name in choices[::-1]]


def arrow_names(web, other, rooms):
    """For each arrow a name of its own: an arrow of the other web between the names of its rooms."""
    left = {}
    for arrow, pair in enumerate(other.arrows()):
        left.setdefault(pair, []).append(arrow)
    return [left[(rooms[begin], rooms[end])].pop(0) for begin, end in web.arrows()]


def need_small(web):
    """Refuse a web that has more rooms or arrows than these searches take."""
    if web.rooms() > MOST_ALIKE_ROOMS or len(web) > MOST_ALIKE_ARROWS:
        raise Wide()


def led_on(pairs, one, other):
    """Those of the pairs of arrows behind which pairs follow without end."""
    while True:
        begins = {(one.begin(near), other.begin(far)): True for near, far in pairs}
        kept = [(near, far) for near, far in pairs if (one.end(near), other.end(far)) in begins]
        if len(kept) == len(pairs):
            return pairs
        pairs = kept


def names_down(web, folds, rooms, goal):
    """The naming that turns the web behind a row of folds into another one, by the names of its rooms."""
    return rooms, arrow_names(folded(web, folds), goal, rooms)


def alike_paper(one, other, ones, others):
    """The paper of two webs whose arrows have these images in one web to which both fold."""
    pairs = [(near, far) for near, image in enumerate(ones) for far, match in enumerate(others) if image == match]
    pairs = led_on(pairs, one, other)
    rooms = sorted(set([(one.begin(near), other.begin(far)) for near, far in pairs]))
    numbers = {room: at for at, room in enumerate(rooms)}
    arrows = [(numbers[(one.begin(near), other.begin(far))], numbers[(one.end(near), other.end(far))])
              for near, far in pairs]
    web = Web(len(rooms), arrows)
    folds, names = folds_down(web, [room[0] for room in rooms], [pair[0] for pair in pairs])
    more, others_names = folds_down(web, [room[1] for room in rooms], [pair[1] for pair in pairs])
    return ("alike", web, folds, names_down(web, folds, names, one),
            more, names_down(web, more, others_names, other))


def alike(one, other):
    """A paper that two webs are alike, or that they are not."""
    need_small(one)
    need_small(other)
    one_last, folds = total(one)
    other_last, more = total(other)
    names = naming(one_last, other_last)
    if names is None:
        return "unlike", folds, more, grown(one_last, other_last, MOST_TREE)
    arrows = arrow_names(one_last, other_last, names)
    images = [arrows[image] for image in images_of(one, folds)]
    return alike_paper(one, other, images, images_of(other, more))


def goes_down(web, folds, names, goal):
    """Whether a row of folds and a naming lead from a web to another one."""
    try:
        return named(folded(web, folds), names[0], names[1]) == goal
    except (BadFold, BadNaming, BadRoom):
        return False


def last_of(web, folds):
    """The web behind a row of folds until nothing folds, or None where the row is no such one."""
    try:
        last = folded(web, folds)
    except (BadFold, BadRoom):
        return None
    return last if folds_of(last) == [] else None


def unlike_holds(one, other, paper):
    """Whether a paper that two webs are not alike holds."""
    one_last = last_of(one, paper[1])
    other_last = last_of(other, paper[2])
    if one_last is None or other_last is None:
        return False
    return tree_holds(counts_of(one_last), counts_of(other_last), {}, paper[3])


def alike_holds(one, other, paper):
    """Whether a paper that two webs are alike, or that they are not, holds."""
    if paper[0] == "alike" and len(paper) == 6:
        web = paper[1]
        return goes_down(web, paper[2], paper[3], one) and goes_down(web, paper[4], paper[5], other)
    if paper[0] == "unlike" and len(paper) == 4:
        return unlike_holds(one, other, paper)
    return False


def between(one, other):
    """A reader with a way back from one web to the other, in least form, or None."""
    need_small(one)
    need_small(other)
    one_last, folds = total(one)
    other_last, more = total(other)
    names = naming(one_last, other_last)
    if names is None:
        return None
    arrows = arrow_names(one_last, other_last, names)
    table = {(arrow,): arrows[image] for arrow, image in enumerate(images_of(one, folds))}
    reader = Reader(one, other_last, 1, table)
    for web, pair in steps_up(other, more):
        reader = joined(reader, fold_codes(web, pair[0], pair[1])[1])
    return reader


def steps_up(web, folds):
    """The pairs (web, its fold) along a row of folds, the last one first."""
    steps = []
    for one, other in folds:
        steps.append((web, (one, other)))
        web = fold(web, one, other)
    return steps[::-1]
