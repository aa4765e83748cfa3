"""Models of webs in other webs, fours and peelings."""

from wheelgrown.base.webs import check_web
from wheelgrown.base.words import are_different_names, is_ascending
from wheelgrown.errors import InvalidGrowth, InvalidModel, TooMany
from wheelgrown.grow.growths import Growth
from wheelgrown.part.partings import inner_web
from wheelgrown.within.peels import can_peel, peeled
from wheelgrown.within.spots import are_spots, are_spots_tied, spots_for

MAX_SOUGHT = 8
MANY_IN_FOUR = 4


def is_model(web, small, value):
    """Whether the value is a model of a small web in the web."""
    check_web(web)
    check_web(small)
    if not isinstance(value, dict) or len(value) != len(small.places):
        return False
    if not all([place in value for place in small.places]) or not are_spots(web, tuple(value.values())):
        return False
    return all([are_spots_tied(web, value[a], value[b]) for a, b in small.ties])


def model_in(web, small):
    """Any model of a small web in the web, None if there is none."""
    check_web(web)
    check_web(small)
    if len(web.places) > MAX_SOUGHT:
        raise TooMany(MAX_SOUGHT)
    spots = spots_for(web, small)
    return None if spots is None else dict(zip(small.places, spots))


def model_along(growth):
    """The model of the web of a growth's wheel in its last web, by the places from which the others came."""
    if not isinstance(growth, Growth):
        raise InvalidGrowth("a growth is an object of Growth")
    model = {place: (place,) for place in growth.web_at(0).places}
    for step in growth.steps:
        if step[0] == "split":
            first = [place for place in model if step[1] in model[place]][0]
            model[first] = tuple(sorted([*model[first], step[2]]))
    return model


def joined_models(web, middle, small, outer, inner):
    """The model of a small web that comes of a model of a middle web, and of one of the small web in the middle one."""
    for value in (web, middle, small):
        check_web(value)
    if not is_model(web, middle, outer):
        raise InvalidModel("this is no model of the middle web in the outer one")
    if not is_model(middle, small, inner):
        raise InvalidModel("this is no model of the small web in the middle one")
    return {place: tuple(sorted([far for near in inner[place] for far in outer[near]])) for place in small.places}


def _has_four(web):
    return len(peeled(web)) < len(web.places)


def _spare_tie(web):
    """A tie that can be drawn together so that a four is left, of a web with a four that hangs together.

    With more than four places there is one: within a spot of a four, or from a spot to a place that is in none.
    """
    for a, b in web.ties:
        if _has_four(web.drawn_together(a, b)):
            return (a, b)
    return None


def four_of(web):
    """Any four of the web, None if there is none."""
    check_web(web)
    if not _has_four(web):
        return None
    # A four is within one lot, as each two of its spots are tied.
    inner = [inner_web(web, lot) for lot in web.lots]
    left = [lot for lot in inner if _has_four(lot)][0]
    spots = {place: (place,) for place in left.places}
    while len(left.places) > MANY_IN_FOUR:
        a, b = _spare_tie(left)
        spots[a] = tuple(sorted(spots[a] + spots[b]))
        left = left.drawn_together(a, b)
    return tuple(sorted([spots[place] for place in left.places]))


def is_four(web, value):
    """Whether the value is a four of the web."""
    check_web(web)
    if not are_spots(web, value) or len(value) != MANY_IN_FOUR or not is_ascending(value):
        return False
    pairs = [(one, other) for index, one in enumerate(value) for other in value[index + 1:]]
    return all([are_spots_tied(web, one, other) for one, other in pairs])


def peeling_of(web):
    """Any peeling of the web, None if there is none."""
    check_web(web)
    order = peeled(web)
    return order if len(order) == len(web.places) else None


def is_peeling(web, value):
    """Whether the value is a peeling of the web."""
    check_web(web)
    return are_different_names(value) and tuple(sorted(value)) == web.places and can_peel(web, value)
