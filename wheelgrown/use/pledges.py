"""Pledges: what is to hold of a web while it is worked on."""

from wheelgrown.base.webs import is_tie
from wheelgrown.base.words import is_count, is_integer
from wheelgrown.draw.drawings import is_drawable
from wheelgrown.part.partings import MAX_PARTING, held_level, is_held
from wheelgrown.part.ways import count_ways
from wheelgrown.tree.whole import is_loose

# What is held has this level.
MAX_LEVEL = MAX_PARTING + 1


def is_pledge(value):
    """Whether the value is a pledge, of whatever web."""
    if not isinstance(value, tuple) or value == ():
        return False
    kind = value[0]
    if len(value) == 1:
        return kind in ("held", "loose", "drawable")
    if kind == "level":
        return len(value) == 2 and is_integer(value[1]) and 1 <= value[1] <= MAX_LEVEL
    if kind == "tied":
        return is_tie(value[1:])
    return kind == "ways" and len(value) == 4 and is_tie(value[1:3]) and is_count(value[3])


def _holds_between(web, pledge):
    """Whether a pledge about two places holds."""
    a, b = pledge[1:3]
    if a not in web.places or b not in web.places:
        return False
    return web.is_tied(a, b) if pledge[0] == "tied" else count_ways(web, a, b) >= pledge[3]


def holds(web, pledge):
    """Whether a pledge holds of the web."""
    kind = pledge[0]
    if kind == "held":
        return is_held(web)
    if kind == "loose":
        return is_loose(web)
    if kind == "drawable":
        return web.hangs and is_drawable(web)
    if kind == "level":
        return held_level(web) >= pledge[1]
    return _holds_between(web, pledge)
