"""Walkers: endless walks that come round."""

from aheadfold.errors import BadArrow, BadBeat, BadWalk

MOST_FIRST = 600


def need_walk(web, ahead, ring):
    """Refuse arrows that are no walk that comes round."""
    laid = list(ahead) + list(ring)
    place = web.wrong_place(laid)
    if place < len(laid):
        raise BadWalk(place)
    if len(ring) == 0 or not web.follows(ring[0], ring[-1]):
        raise BadWalk(len(laid))


def shortest(ring):
    """The shortest ring that, told again and again, is this one."""
    for many in range(1, len(ring)):
        if len(ring) % many == 0 and ring[:many] * (len(ring) // many) == ring:
            return ring[:many]
    return ring


def turned(ring, many):
    """The ring that begins so many arrows later."""
    cut = many % len(ring)
    return ring[cut:] + ring[:cut]


def least_walk(ahead, ring):
    """The pair of the fewest arrows ahead and the shortest ring of the same walk."""
    loop = shortest(ring)
    left = len(ahead)
    # Where the last arrow ahead is also the last one of the ring, the ring can begin there.
    while left > 0 and ahead[left - 1] == loop[(left - 1 - len(ahead)) % len(loop)]:
        left -= 1
    return ahead[:left], turned(loop, left - len(ahead))


def walk_text(ahead, ring):
    """The words of a walk: arrows ahead, a stroke, and the ring."""
    return " ".join([str(arrow) for arrow in ahead] + ["|"] + [str(arrow) for arrow in ring])


class Walker:
    """Arrows ahead, then a ring of arrows again and again. No walker changes."""

    def __init__(self, web, ahead, ring):
        need_walk(web, ahead, ring)
        lead, loop = least_walk(tuple(ahead), tuple(ring))
        self.home = web
        self.lead = lead
        self.loop = loop

    def __eq__(self, other):
        # The least form of a walk is its only one, so that equal walks are told alike.
        return (isinstance(other, Walker) and self.home == other.home
                and self.lead == other.lead and self.loop == other.loop)

    def __repr__(self):
        return f"Walker({walk_text(self.lead, self.loop)})"

    def web(self):
        """The web in which it goes."""
        return self.home

    def ahead(self):
        """The list of arrows ahead of the ring, the fewest."""
        return list(self.lead)

    def ring(self):
        """The list of arrows of the shortest ring."""
        return list(self.loop)

    def arrow(self, beat):
        """The arrow of a beat, from 0."""
        if beat < 0:
            raise BadBeat()
        if beat < len(self.lead):
            return self.lead[beat]
        return self.loop[(beat - len(self.lead)) % len(self.loop)]

    def first(self, many):
        """The list of so many first arrows."""
        if not 0 <= many <= MOST_FIRST:
            raise BadBeat()
        return [self.arrow(beat) for beat in range(many)]

    def later(self, many):
        """The walker from that beat on."""
        if many < 0:
            raise BadBeat()
        if many <= len(self.lead):
            return Walker(self.home, self.lead[many:], self.loop)
        return Walker(self.home, (), turned(self.loop, many - len(self.lead)))

    def behind(self, arrow):
        """The walker with this arrow ahead of all of its own."""
        if not self.home.has_arrow(arrow) or not self.home.follows(self.arrow(0), arrow):
            raise BadArrow()
        return Walker(self.home, (arrow,) + self.lead, self.loop)
