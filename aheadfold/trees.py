"""Trees that say of two webs that no naming makes as many arrows lead from room to room."""

from aheadfold.errors import TooMany


class Count:
    """How many trees there are in a tree that grows."""

    def __init__(self, bound):
        self.bound = bound
        self.told = 0

    def more(self):
        """Count one more, and refuse it beyond the bound."""
        if self.told >= self.bound:
            raise TooMany(self.bound)
        self.told += 1


def counts_of(web):
    """For each room how many arrows lead from it to each room."""
    counts = [[0] * web.rooms() for room in range(web.rooms())]
    for begin, end in web.arrows():
        counts[begin][end] += 1
    return counts


def is_apart(ones, others, names, one, other):
    """Whether two rooms that are named are apart by their names."""
    if one != other and names[one] == names[other]:
        return True
    return ones[one][other] != others[names[one]][names[other]]


def apart_pair(ones, others, names, room):
    """A pair of named rooms that are apart, one of them this room, or None."""
    for one in names:
        if is_apart(ones, others, names, room, one):
            return room, one
        if is_apart(ones, others, names, one, room):
            return one, room
    return None


def choices_of(ones, others, names, room):
    """How many names of a room are not apart at once."""
    pairs = [apart_pair(ones, others, {**names, room: name}, room) for name in range(len(others))]
    return pairs.count(None)


def next_room(ones, others, names):
    """The room not named yet that has the fewest choices: so the tree stays small."""
    left = [room for room in range(len(ones)) if room not in names]
    return min([(choices_of(ones, others, names, room), room) for room in left])[1]


def tries_below(ones, others, names, room, count):
    """The trees for each name of a room, below the names that are told already."""
    trees = []
    for name in range(len(others)):
        count.more()
        more = {**names, room: name}
        pair = apart_pair(ones, others, more, room)
        if pair is None:
            further = next_room(ones, others, more)
            trees.append(("tries", further, tries_below(ones, others, more, further, count)))
        else:
            trees.append(("apart", pair[0], pair[1]))
    return tuple(trees)


def grown(one, other, most):
    """A tree for two webs for which there is no naming, with so many trees in it at most."""
    if one.rooms() != other.rooms():
        return ("many",)
    ones = counts_of(one)
    others = counts_of(other)
    room = next_room(ones, others, {})
    count = Count(most)
    count.more()
    return "tries", room, tries_below(ones, others, {}, room, count)


def is_named(thing, names):
    """Whether a thing of a tree is a room that is named."""
    return isinstance(thing, int) and thing in names


def is_nameless(thing, names, rooms):
    """Whether a thing of a tree is a room, of so many rooms, that is not named yet."""
    return isinstance(thing, int) and 0 <= thing < rooms and thing not in names


def apart_holds(ones, others, names, tree):
    """Whether what stands behind the word of such a tree are rooms that are named and apart."""
    if not is_named(tree[1], names) or not is_named(tree[2], names):
        return False
    return is_apart(ones, others, names, tree[1], tree[2])


def tries_hold(ones, others, names, tree):
    """Whether what stands behind the word of such a tree is a room without a name, and a tree for each."""
    room = tree[1]
    if not is_nameless(room, names, len(ones)):
        return False
    if not isinstance(tree[2], tuple) or len(tree[2]) != len(others):
        return False
    for name, below in enumerate(tree[2]):
        if not tree_holds(ones, others, {**names, room: name}, below):
            return False
    return True


def tree_holds(ones, others, names, tree):
    """Whether a thing is a tree that holds below the names that are told already."""
    if not isinstance(tree, tuple):
        return False
    if len(tree) == 1 and tree[0] == "many":
        return len(ones) != len(others)
    if len(tree) == 3 and tree[0] == "apart":
        return apart_holds(ones, others, names, tree)
    if len(tree) == 3 and tree[0] == "tries":
        return tries_hold(ones, others, names, tree)
    return False
