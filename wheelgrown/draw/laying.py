"""How a web is laid out without crossings: rim by rim in each block, and block beside block."""

from wheelgrown.base.webs import Web, ring_web, tie_of
from wheelgrown.part.partings import all_blocks, inner_web
from wheelgrown.part.ways import ring_through


def _ends_of(web, drawn, lot):
    """The ascending tuple of the drawn places that are tied to a lot of the others."""
    return tuple([place for place in drawn.places if any([other in lot for other in web.neighbours(place)])])


def _pieces_left(web, drawn):
    """The list of what is not drawn yet, as pairs of its drawn places, and of those of a lot, () for a tie."""
    left = [tie for tie in web.ties if tie not in drawn.ties]
    pieces = [(tie, ()) for tie in left if tie[0] in drawn.places and tie[1] in drawn.places]
    if len(drawn.places) < len(web.places):
        lots = web.without_places(drawn.places).lots
        pieces.extend([(_ends_of(web, drawn, lot), lot) for lot in lots])
    return pieces


def _path_through(web, ends, lot):
    """A route from the first one of the ends through a lot to another one."""
    routes = [ends[:1]]
    reached = set()
    at = 0
    while routes[at][-1] not in ends[1:]:
        route = routes[at]
        at += 1
        for place in web.neighbours(route[-1]):
            # A tie between two ends is no route through the lot.
            if (place in lot or place in ends[1:] and len(route) > 1) and place not in reached:
                reached.add(place)
                routes.append((*route, place))
    return routes[at]


def _split_rim(rim, path):
    """The two rims that come of a rim by drawing a path between two of its places."""
    first = rim.index(path[0])
    turned = rim[first:] + rim[:first]
    last = turned.index(path[-1])
    return [turned[:last + 1] + path[-2:0:-1], turned[last:] + path[:-1]]


def _rims_for(rims, ends):
    """The list of the rims that have all the ends."""
    return [rim for rim in rims if all([place in rim for place in ends])]


def _block_rims(web):
    """The rims of any drawing of a block of at least three places, in one direction; None if there is none."""
    if len(web.ties) > 3 * len(web.places) - 6:
        return None
    a, b = web.ties[0]
    ring = ring_through(web, a, b)
    drawn = ring_web(ring)
    rims = [ring, ring[::-1]]
    while drawn != web:
        # What has the fewest rims is drawn first: if it has one only, there is no choice; else each choice is right.
        choices = [(_rims_for(rims, piece[0]), piece) for piece in _pieces_left(web, drawn)]
        around, (ends, lot) = min(choices, key=lambda choice: len(choice[0]))
        if around == []:
            return None
        path = ends if lot == () else _path_through(web, ends, lot)
        rims = [rim for rim in rims if rim != around[0]] + _split_rim(around[0], path)
        ties = [tie_of(one, other) for one, other in zip(path, path[1:])]
        drawn = drawn + Web.of_ties(*ties)
    return rims


def _turn_at(behind, place, near):
    """The tuple of the neighbours of a place, where each one stands behind the one before it."""
    turn = [near[0]]
    while len(turn) < len(near):
        turn.append(behind[(place, turn[-1])])
    return tuple(turn)


def _block_turns(web):
    """The turns of any drawing of a block, None if there is none."""
    if len(web.ties) < 2:
        return {place: web.neighbours(place) for place in web.places}
    rims = _block_rims(web)
    if rims is None:
        return None
    behind = {}
    for rim in rims:
        for index, place in enumerate(rim):
            behind[(rim[index - 1], rim[index - 2])] = place
    return {place: _turn_at(behind, place, web.neighbours(place)) for place in web.places}


def turns_of(web):
    """The turns of any drawing of a web that hangs together, None if there is none."""
    turns = {place: () for place in web.places}
    for block in all_blocks(web):
        inner = _block_turns(inner_web(web, block))
        if inner is None:
            return None
        for place in block:
            # Round a cut place the blocks stand side by side.
            turns[place] = turns[place] + inner[place]
    return turns
