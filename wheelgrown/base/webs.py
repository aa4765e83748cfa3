"""Webs: places, and ties between them."""

from wheelgrown.base.masks import full_mask, lot_masks, names_of, near_masks
from wheelgrown.base.words import are_ascending_names, are_different_names, is_ascending, is_name, is_naming
from wheelgrown.errors import InvalidOperation, InvalidPlace, InvalidTie, InvalidWeb
from wheelgrown.errors import ParseError, TooMany, UnknownName

MAX_PLACES = 16
MAX_TIES = 60


def is_tie(value):
    """Whether the value is an ascending pair of names."""
    return are_ascending_names(value) and len(value) == 2


def tie_of(a, b):
    """The tie between two different places, told in either order."""
    return (a, b) if a < b else (b, a)


def pairs_of(places):
    """The ascending tuple of all pairs of an ascending tuple of places."""
    return tuple([(a, b) for index, a in enumerate(places) for b in places[index + 1:]])


def renamed_ties(ties, names):
    """The ascending tuple of ties with other names, by a dict of these."""
    return tuple(sorted([tie_of(names[a], names[b]) for a, b in ties]))


def told_by(line):
    """The place or the tie that a line tells, None if the value is no line."""
    words = line.split(" ") if isinstance(line, str) else []
    if words[:1] == ["place"] and len(words) == 2 and is_name(words[1]):
        return words[1]
    if words[:1] == ["tie"] and len(words) == 3 and are_different_names(tuple(words[1:])):
        return tie_of(words[1], words[2])
    return None


def _are_places(value):
    """Whether the value is an ascending tuple of as many names as a web can have."""
    return are_ascending_names(value) and 1 <= len(value) <= MAX_PLACES


def are_ties(places, value):
    """Whether the value is an ascending tuple of ties between places, as many as a web can have."""
    if not isinstance(value, tuple) or len(value) > MAX_TIES:
        return False
    if not all([is_tie(tie) for tie in value]) or not is_ascending(value):
        return False
    return all([place in places for tie in value for place in tie])


class Web:
    """Places and ties between them. A web never changes."""

    def __init__(self, places, ties):
        if not _are_places(places) or not are_ties(places, ties):
            raise InvalidWeb("no web has these places and ties")
        self._places = places
        self._ties = ties

    @classmethod
    def from_lines(cls, *lines):
        """The web with these lines, in any order."""
        told = []
        for index, line in enumerate(lines):
            item = told_by(line)
            if item is None or item in told:
                raise ParseError(index)
            told.append(item)
        ties = [item for item in told if isinstance(item, tuple)]
        places = [item for item in told if isinstance(item, str)] + [place for tie in ties for place in tie]
        return cls(tuple(sorted(set(places))), tuple(sorted(ties)))

    @classmethod
    def of_ties(cls, *ties):
        """The web with just these ties, in any order, and their places."""
        if not all([is_tie(tie) for tie in ties]) or len(set(ties)) < len(ties):
            raise InvalidTie("ties are ascending pairs of names, each told once")
        places = [place for tie in ties for place in tie]
        return cls(tuple(sorted(set(places))), tuple(sorted(ties)))

    @property
    def places(self):
        """The ascending tuple of the places."""
        return self._places

    @property
    def ties(self):
        """The ascending tuple of the ties."""
        return self._ties

    @property
    def lines(self):
        """A line for each place without ties, then one for each tie, both ascending."""
        held = [place for tie in self._ties for place in tie]
        alone = [f"place {place}" for place in self._places if place not in held]
        return tuple(alone + [f"tie {a} {b}" for a, b in self._ties])

    @property
    def lots(self):
        """The greatest sets of places that hang together, as an ascending tuple of ascending tuples."""
        near = near_masks(self._places, self._ties)
        lots = lot_masks(near, full_mask(len(self._places)))
        return tuple([names_of(self._places, lot) for lot in lots])

    @property
    def hangs(self):
        """Whether there is just one lot."""
        return len(self.lots) == 1

    def _check_ends(self, a, b):
        check_place(self, a)
        check_place(self, b)

    def _check_tie(self, a, b):
        if not self.is_tied(a, b):
            raise InvalidTie("these places are not tied")

    def neighbours(self, place):
        """The ascending tuple of the places that are tied to a place."""
        check_place(self, place)
        # Ties ascend, so those in which the place stands second come first, by their other places.
        return tuple([b if a == place else a for a, b in self._ties if place in (a, b)])

    def common(self, a, b):
        """The ascending tuple of the common neighbours of two places."""
        self._check_ends(a, b)
        return tuple([place for place in self.neighbours(a) if place in self.neighbours(b)])

    def is_tied(self, a, b):
        """Whether two places are tied."""
        self._check_ends(a, b)
        return tie_of(a, b) in self._ties

    def with_tie(self, a, b):
        """The web with the tie between these places more."""
        if self.is_tied(a, b) or a == b:
            raise InvalidTie("no tie can be put in between these places")
        if len(self._ties) == MAX_TIES:
            raise TooMany(MAX_TIES)
        return Web(self._places, tuple(sorted([*self._ties, tie_of(a, b)])))

    def without_tie(self, a, b):
        """The web with the tie between these places less."""
        self._check_tie(a, b)
        return Web(self._places, tuple([tie for tie in self._ties if tie != tie_of(a, b)]))

    def with_place(self, name):
        """The web with one place more, without ties."""
        if not is_name(name) or name in self._places:
            raise InvalidPlace("a new place is told by a name that no place has")
        if len(self._places) == MAX_PLACES:
            raise TooMany(MAX_PLACES)
        return Web(tuple(sorted([*self._places, name])), self._ties)

    def without_places(self, places):
        """The web without those of a tuple of places, and without their ties."""
        if not isinstance(places, tuple):
            raise InvalidOperation("places are told by a tuple")
        for place in places:
            check_place(self, place)
        left = tuple([place for place in self._places if place not in places])
        return Web(left, tuple([(a, b) for a, b in self._ties if a in left and b in left]))

    def drawn_together(self, a, b):
        """The web with the tie between these places drawn together to the first one."""
        self._check_tie(a, b)
        kept = [tie for tie in self._ties if b not in tie]
        moved = [tie_of(a, place) for place in self.neighbours(b) if place != a]
        left = tuple([place for place in self._places if place != b])
        return Web(left, tuple(sorted(set(kept + moved))))

    def is_thin(self, a, b):
        """Whether the tie between these places is thin: they have no common neighbour."""
        self._check_tie(a, b)
        return self.common(a, b) == ()

    def renamed(self, names):
        """The web with other names, by a dict from just its places to different names."""
        if not is_naming(self._places, names):
            raise InvalidOperation("new names are told by a dict from just the places to different names")
        places = tuple(sorted([names[place] for place in self._places]))
        return Web(places, renamed_ties(self._ties, names))

    def __add__(self, other):
        if not isinstance(other, Web):
            return NotImplemented
        places = tuple(sorted(set(self._places + other._places)))
        return Web(places, tuple(sorted(set(self._ties + other._ties))))

    def __sub__(self, other):
        return self.without_places(other)

    def __invert__(self):
        ties = tuple([pair for pair in pairs_of(self._places) if pair not in self._ties])
        if len(ties) > MAX_TIES:
            raise TooMany(MAX_TIES)
        return Web(self._places, ties)

    def __contains__(self, value):
        return value in self._places or value in self._ties

    def __len__(self):
        return len(self._places)

    def __iter__(self):
        return iter(self._ties)

    def __eq__(self, other):
        return isinstance(other, Web) and self._places == other._places and self._ties == other._ties

    def __str__(self):
        return f"web of {len(self._places)} places, {len(self._ties)} ties"


def check_web(value):
    """Raise InvalidWeb if the value is no web."""
    if not isinstance(value, Web):
        raise InvalidWeb("a web is an object of Web")


def check_place(web, place):
    """Raise UnknownName if the value is no place of the web."""
    # A tuple is searched by ==, so that the value need not be one that can be hashed.
    if place not in web.places:
        raise UnknownName(place)


def full_web(places):
    """The web with these places and all ties between them."""
    if not _are_places(places):
        raise InvalidWeb("places are told by an ascending tuple of one to sixteen names")
    return Web(places, pairs_of(places))


def ring_web(ring):
    """The web of these places, each tied to the next one and the last one to the first one."""
    if not are_different_names(ring) or not 3 <= len(ring) <= MAX_PLACES:
        raise InvalidWeb("a ring is told by a tuple of three to sixteen different names")
    ties = [tie_of(ring[index - 1], place) for index, place in enumerate(ring)]
    return Web(tuple(sorted(ring)), tuple(sorted(ties)))


def is_route(web, value):
    """Whether the value is a tuple of different places of the web, each tied to the next one."""
    if not are_different_names(value) or value == ():
        return False
    if not all([place in web.places for place in value]):
        return False
    return all([web.is_tied(one, other) for one, other in zip(value, value[1:])])
