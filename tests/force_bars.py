"""Slow and plain looks at bars and side rings, straight from the words of the document."""

from itertools import combinations, product

from tests.force import lots_without, rings_of, tied
from tests.force_parts import is_name_by_force, is_row


def is_route_by_force(web, value):
    if not isinstance(value, tuple) or value == () or not all(is_name_by_force(place) for place in value):
        return False
    if len(set(value)) < len(value) or not set(value) <= set(web.places):
        return False
    return all(tied(a, b) in web.ties for a, b in zip(value, value[1:]))


def ends_by_force(kind, places):
    """The ends of the routes of a bar in their order, None if there is no such bar."""
    if isinstance(kind, str) and kind == "five":
        if is_row(places, is_name_by_force) and len(places) == 5:
            return list(combinations(places, 2))
    elif isinstance(kind, str) and kind == "houses":
        if isinstance(places, tuple) and len(places) == 2 and all(is_row(house, is_name_by_force) and len(house) == 3 for house in places):
            if places[0] < places[1] and len(set(places[0] + places[1])) == 6:
                return list(product(*places))
    return None


def is_bar_by_force(web, value):
    if not isinstance(value, tuple) or len(value) != 3:
        return False
    kind, places, routes = value
    ends = ends_by_force(kind, places)
    if ends is None or not isinstance(routes, tuple) or len(routes) != len(ends):
        return False
    if not all(is_route_by_force(web, route) and (route[0], route[-1]) == pair for route, pair in zip(routes, ends)):
        return False
    for one, other in combinations(routes, 2):
        if not set(one) & set(other) <= {one[0], one[-1]} & {other[0], other[-1]}:
            return False
    corners = {place for pair in ends for place in pair}
    return not any(set(route[1:-1]) & corners for route in routes)


def routes_within(web, a, b, free):
    """All routes between two places of which the places within are free ones."""
    found = [(a, b)] if tied(a, b) in web.ties else []
    waiting = [(a,)]
    while waiting:
        route = waiting.pop()
        for place in free:
            if place not in route and tied(route[-1], place) in web.ties:
                if tied(place, b) in web.ties:
                    found.append((*route, place, b))
                waiting.append((*route, place))
    return found


def choices_of_routes(web, ends, free):
    """All tuples of routes between these ends, in their order, of which no two have a place within in common."""
    if not ends:
        return [()]
    found = []
    for route in routes_within(web, *ends[0], free):
        left = [place for place in free if place not in route]
        found += [(route, *others) for others in choices_of_routes(web, ends[1:], left)]
    return found


def bars_by_force(web):
    """All bars of the web."""
    told = [("five", five) for five in combinations(web.places, 5)]
    for six in combinations(web.places, 6):
        told += [("houses", (left, tuple(place for place in six if place not in left)))
                 for left in combinations(six, 3) if six[0] in left]
    found = []
    for kind, places in told:
        ends = ends_by_force(kind, places)
        free = [place for place in web.places if not any(place in pair for pair in ends)]
        found += [(kind, places, routes) for routes in choices_of_routes(web, ends, free)]
    return found


def is_bare_by_force(web, ring):
    beside = {tied(*pair) for pair in zip(ring, ring[1:] + ring[:1])}
    return not any(pair in web.ties and pair not in beside for pair in combinations(sorted(ring), 2))


def bare_rings_of(web):
    return [ring for size in range(3, len(web) + 1) for ring in rings_of(web, size) if is_bare_by_force(web, ring)]


def side_rings_by_force(web):
    return tuple(sorted(ring for ring in bare_rings_of(web) if len(lots_without(web, ring)) <= 1))
