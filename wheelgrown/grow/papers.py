"""Papers: a growth of a web, or what parts it, or its size if it is small."""

from wheelgrown.base.webs import check_web
from wheelgrown.base.wheels import wheels_of
from wheelgrown.base.words import is_integer
from wheelgrown.errors import InvalidOperation, Parted
from wheelgrown.grow.backs import spare_split, struck_behind, without_ties
from wheelgrown.grow.growths import Growth, is_growth
from wheelgrown.grow.steps import web_ahead
from wheelgrown.part.partings import SMALL, is_held, is_parting, least_parting


def _is_small(web):
    return len(web.places) < SMALL


def _grown(web):
    """A growth of a held web, found by going back from it until it can spare nothing."""
    steps = []
    left = web
    # Just the webs of wheels can spare nothing.
    while True:
        struck = struck_behind(left)
        steps.extend([("tie", a, b) for a, b in struck])
        left = without_ties(left, struck)
        split = spare_split(left)
        if split is None:
            return Growth(wheels_of(left)[0], tuple(steps[::-1]))
        steps.append(split)
        left = web_ahead(left, split)


def growth_of(web):
    """Any growth of the web."""
    check_web(web)
    if _is_small(web):
        raise InvalidOperation("a small web has no growth")
    parting = least_parting(web)
    if parting is not None:
        raise Parted(parting)
    return _grown(web)


def paper(web):
    """Any paper for the web, for a small one that of its size."""
    check_web(web)
    if _is_small(web):
        return ("small", len(web.places))
    parting = least_parting(web)
    if parting is not None:
        return ("parted", parting)
    growth = _grown(web)
    return ("grown", growth.wheel, growth.steps)


def is_paper(web, value):
    """Whether the value is a paper for the web."""
    check_web(web)
    if not isinstance(value, tuple) or value == ():
        return False
    if value[0] == "grown":
        return is_growth(web, value[1:])
    if len(value) != 2:
        return False
    if value[0] == "parted":
        return is_parting(web, value[1])
    return value[0] == "small" and is_integer(value[1]) and value[1] == len(web.places) and _is_small(web)


def is_grown(web):
    """Whether the web has a growth."""
    return is_held(web)
