"""Ways apart between two places, and the gates that bound their number."""

from wheelgrown.base.masks import bits_of, near_masks
from wheelgrown.base.webs import check_place, check_web, is_route, pairs_of, tie_of
from wheelgrown.base.wheels import plain_ring
from wheelgrown.base.words import are_ascending_names, is_ascending
from wheelgrown.errors import InvalidOperation

# In the search each place has two spots: routes come in at its inlet and leave by its outlet.


def _check_ends(web, a, b):
    check_web(web)
    check_place(web, a)
    check_place(web, b)
    if a == b:
        raise InvalidOperation("ways apart lead between two different places")


def _inlet(index):
    return 2 * index


def _outlet(index):
    return 2 * index + 1


def _is_inlet(spot):
    return (spot & 1) == 0


def _first_room(near):
    """For each spot the mask of those to which a route can be led from it, while there are no routes."""
    room = []
    for index, others in enumerate(near):
        room.append(1 << _outlet(index))
        room.append(sum([1 << _inlet(other) for other in bits_of(others)]))
    return room


def _next_layer(room, before, layer):
    """The spots that can be had from a layer and from none before it; `before` is told the ones before them."""
    ahead = []
    for spot in layer:
        for other in bits_of(room[spot]):
            if other not in before:
                before[other] = spot
                ahead.append(other)
    return ahead


def _trails(room, source, sink):
    """The dict from all spots that can be had from the source to those before them, or until the sink is had."""
    before = {source: None}
    layer = [source]
    while layer and sink not in before:
        layer = _next_layer(room, before, layer)
    return before


def _lead_through(room, before, sink):
    """Change the room so that one route more leads along the trail to the sink."""
    spot = sink
    while before[spot] is not None:
        last = before[spot]
        # What is used can be taken back. Ties stay open, only places become full; so the last search
        # ends within full places, and these make the gate.
        room[spot] = room[spot] | (1 << last)
        if _is_inlet(last):
            room[last] = room[last] & ~(1 << spot)
        spot = last


def _between(web, a, b):
    """What a search between two places ends with, leaving out the tie between them.

    It is the triple of the neighbours, the room that is left, and the trails of the last search.
    """
    near = near_masks(web.places, [tie for tie in web.ties if tie != tie_of(a, b)])
    room = _first_room(near)
    source = _outlet(web.places.index(a))
    sink = _inlet(web.places.index(b))
    before = _trails(room, source, sink)
    while sink in before:
        _lead_through(room, before, sink)
        before = _trails(room, source, sink)
    return near, room, before


def _places_behind(near, room, index):
    """The indices to which the routes lead on from a place."""
    return [other for other in bits_of(near[index]) if (room[_inlet(other)] >> _outlet(index)) & 1]


def ways_apart(web, a, b):
    """Any ways apart between two places of which there are as many as possible."""
    _check_ends(web, a, b)
    near, room, _ = _between(web, a, b)
    end = web.places.index(b)
    ways = [(a, b)] if web.is_tied(a, b) else []
    for second in _places_behind(near, room, web.places.index(a)):
        route = [second]
        while route[-1] != end:
            # Within a way just one place lies behind each place.
            route.extend(_places_behind(near, room, route[-1]))
        ways.append((a,) + tuple([web.places[index] for index in route]))
    return tuple(sorted(ways))


def count_ways(web, a, b):
    """The greatest number of ways apart between two places."""
    return len(ways_apart(web, a, b))


def is_ways(web, a, b, value):
    """Whether the value is ways apart between two places, of whatever number."""
    _check_ends(web, a, b)
    if not isinstance(value, tuple) or not all([is_route(web, route) for route in value]):
        return False
    if not all([route[0] == a and route[-1] == b for route in value]):
        return False
    inner = [place for route in value for place in route[1:-1]]
    return is_ascending(value) and len(set(inner)) == len(inner)


def is_most_ways(web, a, b, value):
    """Whether the value is ways apart between two places, and there are not more."""
    return is_ways(web, a, b, value) and len(value) == count_ways(web, a, b)


def least_gate(web, a, b):
    """Any gate between two places of as few places as possible."""
    _check_ends(web, a, b)
    before = _between(web, a, b)[2]
    full = [index for index in range(len(web.places)) if _inlet(index) in before and _outlet(index) not in before]
    return tuple([web.places[index] for index in full])


def is_gate(web, a, b, value):
    """Whether the value is a gate between two places, of whatever number of places."""
    _check_ends(web, a, b)
    if not are_ascending_names(value) or a in value or b in value:
        return False
    if not all([place in web.places for place in value]):
        return False
    left = web.without_places(value)
    if left.is_tied(a, b):
        left = left.without_tie(a, b)
    return not any([a in lot and b in lot for lot in left.lots])


def is_least_gate(web, a, b, value):
    """Whether the value is a gate between two places, and there is none of fewer places."""
    return is_gate(web, a, b, value) and len(value) == len(least_gate(web, a, b))


def three_ways(web, a, b):
    """Any three ways apart between two places, None if there are no three."""
    ways = ways_apart(web, a, b)
    return ways[:3] if len(ways) >= 3 else None


def ring_through(web, a, b):
    """Any ring of the web with both places, as a plain ring, None if there is none."""
    ways = ways_apart(web, a, b)
    if len(ways) < 2:
        return None
    return plain_ring(ways[0] + ways[1][-2:0:-1])


def weakest(web):
    """Any pair of places between which there are as few ways apart as between any two."""
    check_web(web)
    pairs = pairs_of(web.places)
    if pairs == ():
        raise InvalidOperation("the web has one place only")
    many = [count_ways(web, a, b) for a, b in pairs]
    return pairs[many.index(min(many))]
