"""Slow and plain looks at webs, straight from the words of the document, to check the package against."""

from itertools import combinations, permutations

from wheelgrown.base.webs import Web


def lots_of(places, ties):
    """The lots, by joining sets of places along the ties."""
    lots = [{place} for place in places]
    for a, b in ties:
        one = next(lot for lot in lots if a in lot)
        other = next(lot for lot in lots if b in lot)
        if one is not other:
            lots = [lot for lot in lots if lot is not one and lot is not other] + [one | other]
    return sorted(tuple(sorted(lot)) for lot in lots)


def lots_without(web, taken):
    places = [place for place in web.places if place not in taken]
    return lots_of(places, [tie for tie in web.ties if tie[0] not in taken and tie[1] not in taken])


def partings_of(web):
    return tuple(taken for size in range(3) for taken in combinations(web.places, size)
                 if len(lots_without(web, taken)) >= 2)


def is_held_by_force(web):
    return len(web.places) >= 4 and partings_of(web) == ()


def cut_places_of(web):
    if len(web.places) == 1:
        return ()
    many = len(lots_without(web, ()))
    return tuple(place for place in web.places if len(lots_without(web, (place,))) > many)


def blocks_of(web):
    """The greatest sets that hang together and have no cut place, of all sets of places."""
    found = []
    for size in range(len(web.places), 0, -1):
        for chosen in combinations(web.places, size):
            inner = Web(chosen, tuple(tie for tie in web.ties if set(tie) <= set(chosen)))
            if len(lots_without(inner, ())) == 1 and cut_places_of(inner) == ():
                if not any(set(chosen) <= set(block) for block in found):
                    found.append(chosen)
    return tuple(sorted(found))


def rings_of(web, size):
    """All plain rings with so many places, by all orders."""
    return [order for order in permutations(web.places, size)
            if order[0] == min(order) and order[1] < order[-1]
            and all(tuple(sorted((order[index - 1], order[index]))) in web.ties for index in range(size))]


def routes_of(web, a, b):
    """All routes from one place to another one."""
    found = []
    rest = [place for place in web.places if place not in (a, b)]
    for size in range(len(rest) + 1):
        for inner in permutations(rest, size):
            route = (a,) + inner + (b,)
            if all(tuple(sorted(pair)) in web.ties for pair in zip(route, route[1:])):
                found.append(route)
    return sorted(found)


def is_gate_by_force(routes, chosen):
    return all(set(route[1:-1]) & set(chosen) for route in routes if len(route) > 2)


def gates_of(web, a, b, routes):
    rest = [place for place in web.places if place not in (a, b)]
    return [chosen for size in range(len(rest) + 1) for chosen in combinations(rest, size)
            if is_gate_by_force(routes, chosen)]


def is_ways_by_force(routes, value):
    """Whether an ascending choice of routes has no place within two of them."""
    inner = [place for route in value for place in route[1:-1]]
    return len(inner) == len(set(inner)) and list(value) == sorted(set(value)) and all(route in routes for route in value)


def most_ways_of(routes):
    """The greatest number of routes of which no two have other places in common."""
    most = 0
    for index, route in enumerate(routes):
        others = [other for other in routes[index + 1:] if not set(other[1:-1]) & set(route[1:-1])]
        most = max(most, 1 + most_ways_of(others))
    return most


def all_webs(places):
    """All webs with just these places, ascending by their ties."""
    pairs = list(combinations(places, 2))
    ties = sorted(tuple(pairs[index] for index in range(len(pairs)) if mask >> index & 1) for mask in range(2 ** len(pairs)))
    return [Web(tuple(places), chosen) for chosen in ties]


def random_webs(source, many, least, most):
    """So many webs with numbers of places from least to most, drawn from a random source with a told seed."""
    webs = []
    while len(webs) < many:
        size = source.randint(least, most)
        places = tuple(sorted(source.sample("abcdefghijklmnop", size)))
        pairs = list(combinations(places, 2))
        ties = source.sample(pairs, min(60, source.randint(0, len(pairs))))
        webs.append(Web(places, tuple(sorted(ties))))
    return webs


def tied(a, b):
    return tuple(sorted((a, b)))


def behind(web, step):
    """The places and the ties behind a step of the right form, None if it cannot be done."""
    places, ties = set(web.places), set(web.ties)
    if len(ties) == 60:
        return None
    if step[0] == "tie":
        done = set(step[1:]) <= places and step[1] < step[2] and step[1:] not in ties
        return (sorted(places), sorted(ties | {step[1:]})) if done else None
    _, place, new, moved = step
    near = {x for x in places if tied(x, place) in ties}
    if place not in places or new in places or len(places) == 16 or not set(moved) <= near:
        return None
    if len(moved) < 2 or len(near - set(moved)) < 2:
        return None
    ties = ties - {tied(place, x) for x in moved} | {tied(new, x) for x in moved} | {tied(place, new)}
    return sorted(places | {new}), sorted(ties)


def ahead(web, step):
    """The web ahead of a step of the right form, None if the step does not lead to the web."""
    if step[0] == "tie":
        found = Web(web.places, tuple(tie for tie in web.ties if tie != step[1:]))
    else:
        _, place, new, moved = step
        if new not in web.places or not {place, *moved} <= set(web.places) - {new}:
            return None
        ties = {tie for tie in web.ties if new not in tie} | {tied(place, x) for x in moved}
        found = Web(tuple(x for x in web.places if x != new), tuple(sorted(ties)))
    return found if behind(found, step) == (list(web.places), list(web.ties)) else None


def forms_of_steps(names, news):
    """All values that have the form of a step with such names, ascending."""
    splits = [("split", place, new, moved) for place in names for new in news if new != place
              for size in range(2, len(names)) for moved in combinations(sorted(set(names) - {place, new}), size)]
    return sorted(splits + [("tie", a, b) for a, b in combinations(sorted(names), 2)])


def is_walk_to(web, wheel, steps):
    """Whether the steps lead from a wheel of the right form to the web."""
    hub, ring = wheel
    ties = {tied(hub, x) for x in ring} | {tied(*pair) for pair in zip(ring, ring[1:] + ring[:1])}
    here = Web(tuple(sorted((hub,) + ring)), tuple(sorted(ties)))
    for step in steps:
        told = behind(here, step)
        if told is None:
            return False
        here = Web(tuple(told[0]), tuple(told[1]))
    return here == web


def held_web_of(source, size, many):
    """A held web with so many places and ties, drawn from a random source with a told seed."""
    while True:
        pairs = source.sample(list(combinations("abcdefghijklmnop"[:size], 2)), many)
        web = Web(tuple("abcdefghijklmnop"[:size]), tuple(sorted(pairs)))
        if all(len(web.neighbours(place)) > 2 for place in web.places) and is_held_by_force(web):
            return web
