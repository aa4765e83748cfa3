"""Held webs with told names, samenesses, and kinds of webs."""

from wheelgrown.base.choices import each_choice
from wheelgrown.base.webs import Web, check_web, pairs_of, renamed_ties
from wheelgrown.base.words import are_ascending_names, is_naming
from wheelgrown.errors import InvalidNumber, InvalidPlace, TooMany
from wheelgrown.part.partings import is_held

MIN_NAMED = 4
MAX_NAMED = 6
MAX_ALIKE = 7


def _can_be_held(places, ties):
    """Whether each place has at least three ties, without which it would be parted by its neighbours."""
    ends = [place for tie in ties for place in tie]
    return all([ends.count(place) >= 3 for place in places])


def each_held(places):
    """All held webs with just these places, ascending by their ties as tuples."""
    if not are_ascending_names(places):
        raise InvalidPlace("places are told by an ascending tuple of names")
    if not MIN_NAMED <= len(places) <= MAX_NAMED:
        raise InvalidNumber(len(places))
    pairs = pairs_of(places)
    for choice in each_choice(len(pairs)):
        ties = tuple([pairs[index] for index in choice])
        if _can_be_held(places, ties):
            web = Web(places, ties)
            if is_held(web):
                yield web


def count_held(places):
    """The number of all held webs with just these places."""
    return len(list(each_held(places)))


def held_by_ties(places):
    """The dict from numbers of ties to the numbers of the held webs with just these places and so many ties."""
    many = [len(web.ties) for web in each_held(places)]
    return {number: many.count(number) for number in sorted(set(many))}


def _orders(names):
    """The list of all orders of some different names, as tuples."""
    orders = [()]
    for _ in names:
        orders = [(*order, name) for order in orders for name in names if name not in order]
    return orders


def _namings(one, other):
    """The list of all dicts from the places of a web to those of another one with as many places."""
    return [dict(zip(one.places, order)) for order in _orders(other.places)]


def _alike_ties(web):
    """The list of the ties of the web with its places renamed in all ways; equal ones come several times."""
    return [renamed_ties(web.ties, names) for names in _namings(web, web)]


def sameness(one, other):
    """Any sameness from one web to another one, None if there is none."""
    check_web(one)
    check_web(other)
    if len(one.places) != len(other.places):
        return None
    if len(one.places) > MAX_ALIKE:
        raise TooMany(MAX_ALIKE)
    for names in _namings(one, other):
        if renamed_ties(one.ties, names) == other.ties:
            return names
    return None


def is_sameness(one, other, value):
    """Whether the value is a sameness from one web to another one."""
    check_web(one)
    check_web(other)
    return is_naming(one.places, value) and one.renamed(value) == other


def _check_few(web):
    check_web(web)
    if len(web.places) > MAX_ALIKE:
        raise TooMany(MAX_ALIKE)


def count_samenesses(web):
    """The number of samenesses from a web to itself."""
    _check_few(web)
    return _alike_ties(web).count(web.ties)


def plain_web(web):
    """The least one of all webs alike to it with the same places."""
    _check_few(web)
    return Web(web.places, min(_alike_ties(web)))


def held_kinds(places):
    """The ascending tuple of all held webs with just these places that are their own plain webs."""
    kinds = []
    seen = set()
    for web in each_held(places):
        # The webs ascend, so the first one of each kind is its plain web.
        if web.ties not in seen:
            kinds.append(web)
            for ties in _alike_ties(web):
                seen.add(ties)
    return tuple(kinds)
