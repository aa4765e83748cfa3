"""All of a web: its blocks, and the trees of their parts."""

from wheelgrown.base.webs import MAX_PLACES, MAX_TIES, Web, check_web
from wheelgrown.base.words import are_ascending_names, is_integer
from wheelgrown.errors import InvalidPart
from wheelgrown.grow.growths import is_growth
from wheelgrown.grow.papers import growth_of
from wheelgrown.part.partings import all_blocks, all_partings, inner_web
from wheelgrown.tree.parts import MIN_WHOLE
from wheelgrown.tree.rules import is_tree, joined_web, sides_of
from wheelgrown.tree.splits import tree_of


def _told_block(web, block):
    """The triple of a block, of the parts and of the doors of its tree."""
    if len(block) < MIN_WHOLE:
        return (block, (), ())
    parts, doors = tree_of(inner_web(web, block))
    return (block, parts, doors)


def whole_of(web):
    """The whole of a web."""
    return tuple([_told_block(web, block) for block in all_blocks(web)])


def is_whole(web, value):
    """Whether the value is the whole of a web."""
    if value != whole_of(web):
        return False
    # True is equal to 1 for Python, but is no index.
    return all([is_integer(i) and is_integer(j) for _, _, doors in value for _, i, j in doors])


def _is_told_block(value):
    """Whether the value is a triple that can be one of a whole."""
    if not isinstance(value, tuple) or len(value) != 3:
        return False
    block, parts, doors = value
    if not are_ascending_names(block):
        return False
    if len(block) < MIN_WHOLE:
        return parts == () and doors == ()
    return is_tree(parts, doors) and joined_web(parts).places == block


def _told_ties(block, parts):
    """The tuple of the ties of a block that is told with its parts."""
    if len(block) < MIN_WHOLE:
        return (block,) if len(block) == 2 else ()
    return joined_web(parts).ties


def joined_whole(value):
    """The web of which the value is the whole."""
    if not isinstance(value, tuple) or not all([_is_told_block(triple) for triple in value]):
        raise InvalidPart("a whole is a tuple of blocks with their parts and doors")
    places = tuple(sorted(set([place for block, _, _ in value for place in block])))
    ties = tuple(sorted(set([tie for block, parts, _ in value for tie in _told_ties(block, parts)])))
    if not 1 <= len(places) <= MAX_PLACES or len(ties) > MAX_TIES or not is_whole(Web(places, ties), value):
        raise InvalidPart("this is the whole of no web")
    return Web(places, ties)


def count_kinds(web):
    """The dict from the kinds of parts and of small blocks to their numbers."""
    whole = whole_of(web)
    kinds = [kind for _, parts, _ in whole for kind, _, _ in parts]
    sizes = [len(block) for block, _, _ in whole]
    return {
        "bundle": kinds.count("bundle"),
        "held": kinds.count("held"),
        "place": sizes.count(1),
        "ring": kinds.count("ring"),
        "tie": sizes.count(2),
    }


def _held_webs(web):
    """The dict from the places of all held parts to the webs with their sides as ties."""
    found = {}
    for _, parts, doors in whole_of(web):
        for index, (kind, places, _) in enumerate(parts):
            if kind == "held":
                found[places] = Web(places, sides_of(parts, doors, index))
    return {places: found[places] for places in sorted(found)}


def held_parts(web):
    """The ascending tuple of the places of all held parts of all blocks."""
    return tuple(_held_webs(web))


def held_web(web, places):
    """The web of a held part, with its sides as ties."""
    webs = _held_webs(web)
    # A tuple is searched by ==, so that the value need not be one that can be hashed.
    if places not in tuple(webs):
        raise InvalidPart("no held part of the web has these places")
    return webs[places]


def part_growths(web):
    """The dict from the places of all held parts to any growths of their webs, as pairs."""
    growths = {places: growth_of(part) for places, part in _held_webs(web).items()}
    return {places: (growth.wheel, growth.steps) for places, growth in growths.items()}


def _are_growths(webs, value):
    """Whether the value is a dict from just these places to growths of their webs."""
    if not isinstance(value, dict) or len(value) != len(webs) or not all([places in value for places in webs]):
        return False
    return all([is_growth(webs[places], value[places]) for places in webs])


def is_told(web, value):
    """Whether the value is a triple of the whole of the web, of growths of its held parts, and of its partings."""
    check_web(web)
    if not isinstance(value, tuple) or len(value) != 3:
        return False
    whole, growths, partings = value
    return partings == all_partings(web) and is_whole(web, whole) and _are_growths(_held_webs(web), growths)


def is_loose(web):
    """Whether the web has no held part."""
    return held_parts(web) == ()


def least_changes(web):
    """The pair of the number of blocks less the number of lots, and of the number of doors in all trees."""
    whole = whole_of(web)
    return (len(whole) - len(web.lots), sum([len(doors) for _, _, doors in whole]))
