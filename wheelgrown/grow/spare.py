"""Ties that a held web can spare, and lean webs, which can spare none by striking."""

from wheelgrown.base.masks import near_masks
from wheelgrown.base.webs import Web
from wheelgrown.errors import InvalidOperation
from wheelgrown.grow.backs import can_join, can_strike, struck_behind, without_ties
from wheelgrown.grow.steps import is_last_step, last_split, web_ahead
from wheelgrown.part.partings import is_held


def _check_held(web):
    if not is_held(web):
        raise InvalidOperation("the web is not held")


def struck_ties(web):
    """The ascending tuple of the ties that can be struck so that the web is held behind it."""
    _check_held(web)
    near = near_masks(web.places, web.ties)
    index_of = {place: index for index, place in enumerate(web.places)}
    return tuple([(a, b) for a, b in web.ties if can_strike(near, index_of[a], index_of[b])])


def joined_ties(web):
    """The ascending tuple of the ties that can be drawn together so that the web is held behind it."""
    _check_held(web)
    near = near_masks(web.places, web.ties)
    index_of = {place: index for index, place in enumerate(web.places)}
    return tuple([(a, b) for a, b in web.ties if can_join(near, index_of[a], index_of[b])])


def spare_steps(web):
    """The ascending tuple of all last steps that lead to the web from a held one."""
    steps = [("tie", a, b) for a, b in struck_ties(web)]
    for a, b in joined_ties(web):
        if web.is_thin(a, b):
            steps.extend([last_split(web, a, b), last_split(web, b, a)])
    return tuple(sorted(steps))


def is_spare_step(web, value):
    """Whether the value is a last step that leads to the web from a held one."""
    _check_held(web)
    return is_last_step(web, value) and is_held(web_ahead(web, value))


def is_lean(web):
    """Whether no tie of the web can be struck so that it is held behind it."""
    return struck_ties(web) == ()


def lean_web(web):
    """Any lean held web with the same places of which all ties are ties of this web."""
    _check_held(web)
    return without_ties(web, struck_behind(web))


def is_lean_within(web, value):
    """Whether the value is a lean held web with the same places of which all ties are ties of this web."""
    _check_held(web)
    if not isinstance(value, Web) or value.places != web.places:
        return False
    return all([tie in web.ties for tie in value.ties]) and is_held(value) and is_lean(value)
