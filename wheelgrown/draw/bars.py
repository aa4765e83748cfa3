"""Bars, which show that a web cannot be drawn without crossings, and side rings of held webs."""

from wheelgrown.base.masks import bits_of, falls_apart, full_mask, near_masks
from wheelgrown.base.webs import check_web, is_route, pairs_of
from wheelgrown.base.words import are_ascending_names, are_different_names
from wheelgrown.draw.laying import turns_of
from wheelgrown.errors import InvalidOperation, TooMany
from wheelgrown.part.partings import is_held

IN_FIVE = 5
IN_HOUSE = 3
MAX_BARE = 3000


def _least_undrawn(web):
    """A web without a drawing that is left by striking ties, and of which no tie can be struck so."""
    left = web
    for a, b in web.ties:
        less = left.without_tie(a, b)
        # What is needed once is needed later, when there are even fewer ties.
        if turns_of(less) is None:
            left = less
    return left


def _route_along(web, place, second):
    """The route that begins with two tied places, and goes on as far as there is just one way ahead."""
    route = [place, second]
    while len(web.neighbours(route[-1])) == 2:
        ahead = [other for other in web.neighbours(route[-1]) if other != route[-2]]
        route.append(ahead[0])
    return tuple(route)


def _bar_all_over(web):
    """The bar that is all of a web, but for places without ties."""
    corners = tuple([place for place in web.places if len(web.neighbours(place)) > 2])
    routes = [_route_along(web, place, second) for place in corners for second in web.neighbours(place)]
    route_of = {(route[0], route[-1]): route for route in routes}
    if len(corners) == IN_FIVE:
        return ("five", corners, tuple([route_of[pair] for pair in pairs_of(corners)]))
    right = tuple([place for place in corners if (corners[0], place) in route_of])
    left = tuple([place for place in corners if place not in right])
    return ("houses", (left, right), tuple([route_of[pair] for pair in _pairs_between(left, right)]))


def bar_of(web):
    """Any bar of the web, None if there is none."""
    check_web(web)
    if turns_of(web) is not None:
        return None
    return _bar_all_over(_least_undrawn(web))


def _pairs_between(left, right):
    """The ascending list of the pairs of a place of the first tuple and one of the second one."""
    return [(a, b) for a in left for b in right]


def _are_houses(value):
    """Whether the value is an ascending pair of two ascending tuples of three names, all different."""
    if not isinstance(value, tuple) or len(value) != 2:
        return False
    left, right = value
    if not are_ascending_names(left) or not are_ascending_names(right):
        return False
    return len(left) == IN_HOUSE and len(right) == IN_HOUSE and left < right and are_different_names(left + right)


def _ends_told(kind, places):
    """The list of the ends of the routes of a bar, in their order, None if no bar is told by these places."""
    if kind == "five" and are_ascending_names(places) and len(places) == IN_FIVE:
        return list(pairs_of(places))
    if kind == "houses" and _are_houses(places):
        return _pairs_between(places[0], places[1])
    return None


def is_bar(web, value):
    """Whether the value is a bar of the web."""
    check_web(web)
    if not isinstance(value, tuple) or len(value) != 3:
        return False
    kind, places, routes = value
    ends = _ends_told(kind, places)
    if ends is None or not isinstance(routes, tuple) or not all([is_route(web, route) for route in routes]):
        return False
    if [(route[0], route[-1]) for route in routes] != ends:
        return False
    inner = [place for route in routes for place in route[1:-1]]
    corners = [place for pair in ends for place in pair]
    return len(set(inner)) == len(inner) and not any([place in corners for place in inner])


def _longer(near, route, free, closing):
    """What comes of a route without ties across by one place more: the list of routes, and that of bare rings.

    Each route stands beside what is free for its next places; `closing` is the mask of the neighbours of its start.
    """
    routes = []
    rings = []
    # What is tied to a place within the route can stand on no ring with it but beside it.
    left = free & ~near[route[-1]]
    for index in bits_of(free & near[route[-1]]):
        if not (closing >> index) & 1:
            routes.append(((*route, index), left))
        elif route[1] < index:
            rings.append((*route, index))
    return routes, rings


def _bare_rings_from(near, start):
    """The list of the plain bare rings of which `start` is the least index, as tuples of indices."""
    later = full_mask(len(near)) & ~full_mask(start + 1)
    waiting = [((start, second), later & ~(1 << second)) for second in bits_of(near[start] & later)]
    found = []
    while waiting:
        route, free = waiting.pop()
        routes, rings = _longer(near, route, free, near[start])
        waiting.extend(routes)
        found.extend(rings)
    return found


def _bare_rings(near):
    """The list of all plain bare rings, as tuples of indices."""
    found = []
    for start in range(len(near)):
        found.extend(_bare_rings_from(near, start))
        if len(found) > MAX_BARE:
            raise TooMany(MAX_BARE)
    return found


def _parts_nothing(near, ring):
    """Whether what is left without a ring of indices hangs together, or is nothing."""
    left = full_mask(len(near)) & ~sum([1 << index for index in ring])
    return not falls_apart(near, left)


def side_rings(web):
    """The ascending tuple of the side rings of a held web."""
    if not is_held(web):
        raise InvalidOperation("the web is not held")
    near = near_masks(web.places, web.ties)
    rings = [ring for ring in _bare_rings(near) if _parts_nothing(near, ring)]
    return tuple([tuple([web.places[index] for index in ring]) for ring in sorted(rings)])
