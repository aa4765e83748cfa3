"""Slow and plain looks at models, fours and peelings, straight from the words of the document."""

from itertools import combinations, product

from tests.force import lots_of, tied
from tests.force_parts import is_name_by_force, is_row


def is_spot_by_force(web, value):
    if not is_row(value, is_name_by_force) or value == () or not set(value) <= set(web.places):
        return False
    return len(lots_of(value, [tie for tie in web.ties if set(tie) <= set(value)])) == 1


def are_tied_by_force(web, one, other):
    return any(tied(a, b) in web.ties for a in one for b in other)


def are_spots_by_force(web, spots):
    """Whether these are spots of which no two have a place in common."""
    if not all(is_spot_by_force(web, spot) for spot in spots):
        return False
    return not any(set(one) & set(other) for one, other in combinations(spots, 2))


def is_model_by_force(web, small, value):
    if not isinstance(value, dict) or set(value) != set(small.places):
        return False
    return are_spots_by_force(web, list(value.values())) and all(are_tied_by_force(web, value[a], value[b]) for a, b in small.ties)


def models_by_force(web, small):
    """All models, by all ways to put each place into the spot of a place of the small web, or aside."""
    found = []
    for row in product((None,) + small.places, repeat=len(web)):
        model = {place: tuple(x for x, at in zip(web.places, row) if at == place) for place in small.places}
        if all(model.values()) and is_model_by_force(web, small, model):
            found.append(model)
    return found


def is_four_by_force(web, value):
    if not isinstance(value, tuple) or len(value) != 4 or not are_spots_by_force(web, value):
        return False
    return list(value) == sorted(value) and all(are_tied_by_force(web, *pair) for pair in combinations(value, 2))


def fours_by_force(web):
    """All fours, by all ways to put each place into one of four spots, or aside."""
    found = set()
    for row in product(range(5), repeat=len(web)):
        spots = tuple(sorted(tuple(x for x, at in zip(web.places, row) if at == spot) for spot in range(4)))
        if all(spots) and spots not in found and is_four_by_force(web, spots):
            found.add(spots)
    return found


def is_peeling_by_force(web, value):
    if not isinstance(value, tuple) or len(value) != len(web) or not all(is_name_by_force(place) for place in value):
        return False
    if set(value) != set(web.places):
        return False
    near = {place: set(web.neighbours(place)) for place in web.places}
    for place in value:
        beside = near.pop(place)
        if len(beside) > 2:
            return False
        for other in beside:
            near[other] = near[other] - {place} | beside - {other}
    return True
