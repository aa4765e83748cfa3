"""Drawings of held webs, carried along steps and back, and the webs and drawings that are dual to them."""

from wheelgrown.base.webs import MAX_PLACES, Web, tie_of
from wheelgrown.base.wheels import wheel_web
from wheelgrown.draw.drawings import Drawing
from wheelgrown.errors import InvalidGrowth, InvalidOperation, InvalidStep, TooMany
from wheelgrown.grow.growths import Growth
from wheelgrown.grow.spare import is_spare_step
from wheelgrown.grow.steps import is_step, made_behind, web_ahead
from wheelgrown.part.partings import is_held

RIM_LETTERS = "abcdefghijklmnop"


def _check_drawing(value):
    if not isinstance(value, Drawing) or not is_held(value.web):
        raise InvalidOperation("this is no drawing of a held web")


def _check_growth(value):
    if not isinstance(value, Growth):
        raise InvalidGrowth("a growth is an object of Growth")


def _begun_with(turn, place):
    """The same turn, begun with one of its places."""
    first = turn.index(place)
    return turn[first:] + turn[:first]


def _replaced(turn, place, other):
    """The turn with another place instead of one of its places."""
    return tuple([other if near == place else near for near in turn])


def drawn_wheel(wheel):
    """The drawing of the web of a wheel in which the neighbours of the hub stand round it as in the ring."""
    web = wheel_web(wheel)
    hub, ring = wheel
    turns = {hub: ring}
    for index, place in enumerate(ring):
        turns[ring[index - 1]] = (place, hub, ring[index - 2])
    return Drawing(web, turns)


def _put_between(turns, rim, a, b):
    """The turn of a place with a new neighbour, where the rim on which both are passes it."""
    before = rim[rim.index(a) - 1]
    turn = _begun_with(turns[a], before)
    return (before, b) + turn[1:]


def _turns_with_tie(drawing, a, b):
    """The turns with a tie more, None if its places are not on one rim."""
    turns = drawing.turns
    for rim in drawing.rims:
        if a in rim and b in rim:
            return {**turns, a: _put_between(turns, rim, a, b), b: _put_between(turns, rim, b, a)}
    return None


def _moved_first(turn, moved):
    """The same turn, begun with those that are moved, None if they do not stand side by side."""
    for place in moved:
        begun = _begun_with(turn, place)
        if tuple(sorted(begun[:len(moved)])) == moved:
            return begun
    return None


def _turns_with_split(drawing, place, new, moved):
    """The turns with a place split, None if the moved places do not stand side by side round it."""
    turns = drawing.turns
    begun = _moved_first(turns[place], moved)
    if begun is None:
        return None
    many = len(moved)
    for other in moved:
        turns[other] = _replaced(turns[other], place, new)
    return {**turns, place: (new,) + begun[many:], new: (place,) + begun[:many]}


def _carried(drawing, step):
    """The drawing carried along a step that can be done in the drawn web, None if there is none."""
    if step[0] == "tie":
        turns = _turns_with_tie(drawing, step[1], step[2])
    else:
        turns = _turns_with_split(drawing, step[1], step[2], step[3])
    return None if turns is None else Drawing(made_behind(drawing.web, step), turns)


def carried(drawing, step):
    """The drawing of the web behind a step from which the way back leads to this one, None if there is none."""
    _check_drawing(drawing)
    if not is_step(drawing.web, step):
        raise InvalidStep("this is no step that can be done in the drawn web")
    return _carried(drawing, step)


def _turns_without_tie(drawing, a, b):
    """The turns with the tie between two places less."""
    turns = drawing.turns
    return {**turns, a: _begun_with(turns[a], b)[1:], b: _begun_with(turns[b], a)[1:]}


def _turns_joined(drawing, place, new, moved):
    """The turns with a new place drawn together with that from which it came."""
    turns = drawing.turns
    for other in moved:
        turns[other] = _replaced(turns[other], new, place)
    joined = _begun_with(turns[new], place)[1:] + _begun_with(turns[place], new)[1:]
    return {**{other: turns[other] for other in turns if other != new}, place: joined}


def carried_back(drawing, step):
    """The drawing of the web ahead of a spare step of the drawn web."""
    _check_drawing(drawing)
    if not is_spare_step(drawing.web, step):
        raise InvalidStep("this is no spare step of the drawn web")
    if step[0] == "tie":
        turns = _turns_without_tie(drawing, step[1], step[2])
    else:
        turns = _turns_joined(drawing, step[1], step[2], step[3])
    return Drawing(web_ahead(drawing.web, step), turns)


def drawings_along(growth):
    """The tuple of the drawings of the webs of a growth, each carried along, as far as there are."""
    _check_growth(growth)
    drawings = [drawn_wheel(growth.wheel)]
    for step in growth.steps:
        drawing = _carried(drawings[-1], step)
        if drawing is None:
            return tuple(drawings)
        drawings.append(drawing)
    return tuple(drawings)


def lost_at(growth):
    """The index of the first step of a growth that cannot be carried, None if all can."""
    many = len(drawings_along(growth))
    return None if many > len(growth) else many - 1


def _rim_names(drawing):
    """The dict from the rims to the names of places for them."""
    if len(drawing.rims) > MAX_PLACES:
        raise TooMany(MAX_PLACES)
    return {rim: f"r{letter}" for rim, letter in zip(drawing.rims, RIM_LETTERS)}


def _dual_web(drawing, names):
    """The dual web with these names for the rims."""
    ties = [tie_of(names[drawing.rim_along(a, b)], names[drawing.rim_along(b, a)]) for a, b in drawing.web.ties]
    return Web.of_ties(*ties)


def dual_web(drawing):
    """The web that has the rims of a drawing as places, and a tie between two for each tie that is on both."""
    _check_drawing(drawing)
    return _dual_web(drawing, _rim_names(drawing))


def dual_drawing(drawing):
    """The drawing of the dual web in which the rims round each place of the drawn web are a rim."""
    _check_drawing(drawing)
    names = _rim_names(drawing)
    # Round a rim, as it is gone, the rims stand that are beyond its ties.
    beyond = {rim: [drawing.rim_along(place, rim[index - 1]) for index, place in enumerate(rim)] for rim in names}
    turns = {names[rim]: tuple([names[other] for other in beyond[rim]]) for rim in names}
    return Drawing(_dual_web(drawing, names), turns)
