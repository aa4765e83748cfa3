"""Rings of webs, and wheels."""

from wheelgrown.base.masks import bits_of, full_mask, near_masks
from wheelgrown.base.webs import MAX_PLACES, Web, check_web, is_route, ring_web, tie_of
from wheelgrown.base.words import are_different_names, is_integer, is_name
from wheelgrown.errors import InvalidGrowth, InvalidNumber, InvalidRoute, TooMany

MIN_RING = 3
MAX_RINGS = 20000


def _is_round(value):
    """Whether the value is a tuple of three or more different names."""
    return are_different_names(value) and len(value) >= MIN_RING


def plain_ring(ring):
    """The plain form of a tuple of three or more different names."""
    if not _is_round(ring):
        raise InvalidRoute("a ring is told by a tuple of three or more different names")
    first = ring.index(min(ring))
    turned = ring[first:] + ring[:first]
    if turned[1] < turned[-1]:
        return turned
    return turned[:1] + turned[:0:-1]


def is_plain(value):
    """Whether the value is a tuple of three or more different names in its plain form."""
    return _is_round(value) and plain_ring(value) == value


def is_ring(web, value):
    """Whether the value is a ring of the web, plain or not."""
    check_web(web)
    return is_route(web, value) and len(value) >= MIN_RING and web.is_tied(value[-1], value[0])


def is_bare(web, ring):
    """Whether no two places of a ring of the web are tied but neighbours in it."""
    if not is_ring(web, ring):
        raise InvalidRoute("this is no ring of the web")
    # A ring has as many ties as places, so each tie more would be one across.
    return len([tie for tie in web.ties if tie[0] in ring and tie[1] in ring]) == len(ring)


def each_ring(web, size):
    """All plain rings of the web with so many places, ascending."""
    check_web(web)
    if not is_integer(size) or not MIN_RING <= size <= MAX_PLACES:
        raise InvalidNumber(size)
    places = web.places
    near = near_masks(places, web.ties)
    for start in range(len(places)):
        for ring in _each_ring_from(near, start, size):
            yield tuple([places[index] for index in ring])


def _each_ring_from(near, start, size):
    """The plain rings of so many indices of which `start` is the least one, ascending."""
    later = full_mask(len(near)) & ~full_mask(start + 1)
    known = {}
    # Each open route is kept with what is free for its next places; the least route lies on top.
    routes = [((start,), later)]
    while routes:
        route, free = routes.pop()
        if len(route) == size:
            # The same ring the other way round is yielded already, or will not be.
            if route[1] < route[-1]:
                yield route
        else:
            for index in sorted(bits_of(near[route[-1]] & free), reverse=True):
                left = free & ~(1 << index)
                if _can_close(near, index, left, start, size - len(route) - 1, known):
                    routes.append(((*route, index), left))


def _can_close(near, last, free, start, many, known):
    """Whether a route from `last` over just so many of the free places can end beside `start`.

    For one start and one size, `many` depends on how many places are free; so `known` need not keep it.
    """
    if many == 0:
        return (near[last] >> start) & 1 == 1
    if (last, free) not in known:
        ahead = bits_of(near[last] & free)
        known[(last, free)] = _can_close_by(near, ahead, free, start, many, known)
    return known[(last, free)]


def _can_close_by(near, ahead, free, start, many, known):
    """Whether such a route can go on with one of those ahead."""
    for index in ahead:
        if _can_close(near, index, free & ~(1 << index), start, many - 1, known):
            return True
    return False


def count_rings(web, size):
    """The number of all plain rings of the web with so many places."""
    many = 0
    for _ in each_ring(web, size):
        many += 1
        if many > MAX_RINGS:
            raise TooMany(MAX_RINGS)
    return many


def is_wheel(value):
    """Whether the value is a pair of a name and a plain ring of three to fifteen other names."""
    if not isinstance(value, tuple) or len(value) != 2:
        return False
    hub, ring = value
    return is_name(hub) and is_plain(ring) and len(ring) < MAX_PLACES and hub not in ring


def wheel_web(wheel):
    """The web of a wheel."""
    if not is_wheel(wheel):
        raise InvalidGrowth("a wheel is a pair of a hub and of a plain ring of its spokes")
    hub, ring = wheel
    ties = [tie_of(hub, place) for place in ring]
    return ring_web(ring) + Web.of_ties(*ties)


def whole_ring(web):
    """The plain ring that is all of the web, None if the web is more or less than a ring."""
    if not web.hangs or not all([len(web.neighbours(place)) == 2 for place in web.places]):
        return None
    # Begun so, the ring is plain.
    ring = [web.places[0], web.neighbours(web.places[0])[0]]
    while len(ring) < len(web.places):
        ahead = [place for place in web.neighbours(ring[-1]) if place != ring[-2]]
        ring.append(ahead[0])
    return tuple(ring)


def _wheel_at(web, hub):
    """The wheel with this hub whose web it is, None if there is none."""
    if len(web.places) <= MIN_RING or len(web.neighbours(hub)) < len(web.places) - 1:
        return None
    ring = whole_ring(web.without_places((hub,)))
    return None if ring is None else (hub, ring)


def wheels_of(web):
    """The ascending tuple of the wheels whose web it is."""
    check_web(web)
    wheels = [_wheel_at(web, hub) for hub in web.places]
    return tuple([wheel for wheel in wheels if wheel is not None])


def is_wheel_web(web):
    """Whether the web is that of a wheel."""
    return wheels_of(web) != ()
