"""Drawings of webs without crossings."""

from wheelgrown.base.webs import check_web
from wheelgrown.base.words import are_names
from wheelgrown.draw.laying import turns_of
from wheelgrown.errors import InvalidOperation, InvalidTie


def _are_turns(web, value):
    """Whether the value is a dict from just the places of the web to tuples of their neighbours, in any order."""
    if not isinstance(value, dict) or len(value) != len(web.places):
        return False
    if not all([place in value and are_names(value[place]) for place in web.places]):
        return False
    return all([tuple(sorted(value[place])) == web.neighbours(place) for place in web.places])


def _least_begun(row):
    """The least one of the tuples that are the same row, begun elsewhere."""
    return min([row[index:] + row[:index] for index in range(len(row))], default=())


def _tie_behind(turns, a, b):
    """The tie by which a rim goes on behind that from `a` to `b`, as the places from which and to which it is gone."""
    turn = turns[b]
    return (b, turn[(turn.index(a) + 1) % len(turn)])


def _rim_along(turns, a, b):
    """The rim on which the tie is gone from `a` to `b`."""
    rim = [a]
    here = _tie_behind(turns, a, b)
    while here != (a, b):
        rim.append(here[0])
        here = _tie_behind(turns, here[0], here[1])
    return _least_begun(tuple(rim))


def _all_rims(turns):
    """The ascending tuple of all rims."""
    rims = [_rim_along(turns, a, b) for a in turns for b in turns[a]]
    # Each tie is gone once in each direction, so two rims cannot be told by the same places.
    return tuple(sorted(set(rims))) if rims != [] else (tuple(turns),)


class Drawing:
    """How the neighbours stand round each place of a web. A drawing never changes."""

    def __init__(self, web, turns):
        check_web(web)
        if not web.hangs or not _are_turns(web, turns):
            raise InvalidOperation("the web does not hang together, or these are not its turns")
        begun = {place: _least_begun(turns[place]) for place in web.places}
        rims = _all_rims(begun)
        if len(web.places) + len(rims) != len(web.ties) + 2:
            raise InvalidOperation("these are the turns of no drawing")
        self._web = web
        self._turns = begun
        self._rims = rims

    @property
    def web(self):
        """The web that is drawn."""
        return self._web

    @property
    def turns(self):
        """The dict from all places to their neighbours as they stand round them, the least ones first."""
        return {place: self._turns[place] for place in self._turns}

    @property
    def rims(self):
        """The ascending tuple of all rims."""
        return self._rims

    def rim_along(self, a, b):
        """The rim on which the tie is gone from the first place to the second one."""
        if not self._web.is_tied(a, b):
            raise InvalidTie("these places are not tied")
        return _rim_along(self._turns, a, b)

    def __invert__(self):
        return Drawing(self._web, {place: self._turns[place][::-1] for place in self._turns})

    def is_like(self, value):
        """Whether the value is this drawing or its mirror image."""
        return self == value or ~self == value

    def __contains__(self, value):
        return value in self._rims

    def __len__(self):
        return len(self._rims)

    def __iter__(self):
        return iter(self._rims)

    def __eq__(self, other):
        return isinstance(other, Drawing) and self._web == other._web and self._turns == other._turns

    def __str__(self):
        return f"drawing with {len(self._rims)} rims"


def drawing_of(web):
    """Any drawing of the web, None if there is none."""
    check_web(web)
    if not web.hangs:
        raise InvalidOperation("the web does not hang together")
    turns = turns_of(web)
    return None if turns is None else Drawing(web, turns)


def is_drawable(web):
    """Whether there is a drawing of the web."""
    return drawing_of(web) is not None
