"""Sayings of a frame read once: what they strike, and what they and the sheets need.

Places are told as bits of a whole number, the place numbered n as the bit n: thousands of places are held beside
thousands in one step.
"""

from kindnames.words import is_node


def _bits(numbers):
    """The places of some numbers, each once, as bits."""
    told = 0
    for number in numbers:
        told = told | 1 << number
    return told


def _is_place(thing):
    """Whether a thing has the form of a place."""
    return isinstance(thing, tuple) and all([item is None or is_node(item) for item in thing])


def refuse_sides(frame, sayings):
    """Refuse the first side of sayings that a frame hasn't."""
    for saying in sayings:
        frame.refuse(saying.one)
        frame.refuse(saying.other)


class Case:
    """What sayings of a frame strike, and what is needed of it."""

    def __init__(self, frame, sayings):
        refuse_sides(frame, sayings)
        self._frame = frame
        self._order = frame.places()
        self._numbers = {place: at for at, place in enumerate(self._order)}
        self._sides = {}
        # (need, places); (number, part, places).
        self._needs = [(("sheet", sheet), self._shared(sides)) for sheet, sides in frame.placed().items()]
        self._strikes = []
        for number, saying in enumerate(sayings):
            for part, is_some, bits in self.parts(saying):
                if is_some:
                    self._needs.append((("saying", number, part), bits))
                else:
                    self._strikes.append((number, part, bits))

    def parts(self, saying):
        """Of each part of a saying of which something is said (part, whether some is taken, its places)."""
        one = self._side(saying.one)
        other = self._side(saying.other)
        told = [
            ("both", saying.both, one & other),
            ("first", saying.first, one & ~other),
            ("second", saying.second, other & ~one),
        ]
        return [row for row in told if row[1] is not None]

    def needs(self):
        """What is needed, each need with the places of which one must be taken: (need, places)."""
        return list(self._needs)

    def strikes(self):
        """What is struck, by parts of sayings: (number, part, places)."""
        return list(self._strikes)

    def left(self, but=()):
        """The places that no saying strikes, some sayings left out by their numbers."""
        struck = 0
        for number, _, bits in self._strikes:
            if number not in but:
                struck = struck | bits
        return ((1 << len(self._order)) - 1) & ~struck

    def lacking(self, taken, but=()):
        """The first need of which no place is taken, with its places, some sayings left out; or None."""
        for need, bits in self._needs:
            is_out = need[0] == "saying" and need[1] in but
            if not is_out and not taken & bits:
                return (need, bits)
        return None

    def has_world(self, but=()):
        """Whether the sayings have a world, some of them left out."""
        return self.lacking(self.left(but), but) is None

    def is_always_so(self, saying):
        """Whether a saying of sides of the frame is so in each world."""
        if not self.has_world():
            return True
        return all([self._is_sure(is_some, bits) for _, is_some, bits in self.parts(saying)])

    def places(self, bits):
        """Places told as bits, in order."""
        return [place for at, place in enumerate(self._order) if bits >> at & 1]

    def taken(self, places):
        """Places of the frame as bits; None where one of some things is none."""
        told = 0
        for place in places:
            # The form is asked first: what is equal to a place may be none, or can't be asked for.
            if not _is_place(place) or place not in self._numbers:
                return None
            told = told | 1 << self._numbers[place]
        return told

    def _is_sure(self, is_some, bits):
        """Whether in each world some of some places is taken, or none is."""
        if is_some:
            # A world is of places left and leaves no need out: without these places there must be none.
            return self.lacking(self.left() & ~bits) is not None
        # All that is left is a world itself.
        return not self.left() & bits

    def _side(self, side):
        if side not in self._sides:
            self._sides[side] = _bits(self._frame.inside(side))
        return self._sides[side]

    def _shared(self, sides):
        """The places that are in each of some sides."""
        told = self._side(sides[0])
        for side in sides:
            told = told & self._side(side)
        return told
