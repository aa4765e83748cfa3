"""Ways back from held webs: which ties can be struck or drawn together, so that the web is held behind it."""

from wheelgrown.base.masks import bits_of, falls_apart, full_mask, least_bit, near_masks, touched_by
from wheelgrown.base.webs import Web
from wheelgrown.grow.steps import last_split
from wheelgrown.part.partings import MAX_PARTING, SMALL


def _between(near, within, one, other):
    """The list of the indices between the ends of a shortest route within a mask, None if there is no route."""
    layers = [1 << one]
    left = within & ~layers[0]
    while not (layers[-1] >> other) & 1:
        fresh = touched_by(near, layers[-1]) & left
        if not fresh:
            return None
        layers.append(fresh)
        left = left & ~fresh
    return _traced(near, layers[-2:0:-1], other)


def _traced(near, layers, last):
    """The list of an index from each layer, each of which is tied to the one before it, the first one to the last."""
    trace = []
    here = last
    for layer in layers:
        here = least_bit(layer & near[here]).bit_length() - 1
        trace.append(here)
    return trace


def _can_part(near, within, one, other, many):
    """Whether some two places within a mask are parted by at most so many others."""
    between = _between(near, within, one, other)
    if between is None:
        return True
    if many > 0:
        # What parts them takes a place out of each route.
        for index in between:
            if _can_part(near, within & ~(1 << index), one, other, many - 1):
                return True
    return False


def _without_tie(near, one, other):
    """The masks of neighbours without the tie between two indices."""
    left = list(near)
    left[one] = near[one] & ~(1 << other)
    left[other] = near[other] & ~(1 << one)
    return left


def can_strike(near, one, other):
    """Whether a held web, told by the masks of neighbours, is held without the tie between two indices.

    What parts it without the tie parts just the two ends of the tie from one another.
    """
    left = _without_tie(near, one, other)
    return not _can_part(left, full_mask(len(near)), one, other, MAX_PARTING)


def can_join(near, one, other):
    """Whether a held web, told by the masks of neighbours, is held with the tie between two indices drawn together.

    What parts it behind this is the one place that both have become, and one place more.
    """
    if len(near) <= SMALL:
        return False
    rest = full_mask(len(near)) & ~(1 << one) & ~(1 << other)
    for index in bits_of(rest):
        if falls_apart(near, rest & ~(1 << index)):
            return False
    return True


def struck_behind(web):
    """The list of ties of a held web that can be struck one behind the other, so that a lean web is left."""
    near = near_masks(web.places, web.ties)
    struck = []
    for a, b in web.ties:
        one = web.places.index(a)
        other = web.places.index(b)
        # What cannot be struck once cannot be struck later, when there are even fewer ties.
        if can_strike(near, one, other):
            near = _without_tie(near, one, other)
            struck.append((a, b))
    return struck


def without_ties(web, ties):
    """The web without some of its ties."""
    return Web(web.places, tuple([tie for tie in web.ties if tie not in ties]))


def spare_split(web):
    """A split that leads to a held web from a held one, None if there is none."""
    near = near_masks(web.places, web.ties)
    for a, b in web.ties:
        if web.is_thin(a, b) and can_join(near, web.places.index(a), web.places.index(b)):
            return last_split(web, a, b)
    return None
