"""Partings of webs, their cut places and their blocks."""

from wheelgrown.base.masks import falls_apart, full_mask, lot_masks, mask_of, names_of, near_masks, reach
from wheelgrown.base.webs import Web, check_web, pairs_of
from wheelgrown.base.words import are_ascending_names
from wheelgrown.errors import InvalidPart, InvalidTie

MAX_PARTING = 2
SMALL = 4


def _falls_apart_without(web, near, taken):
    """Whether the web has at least two lots without these places."""
    within = full_mask(len(near)) & ~mask_of(web.places, taken)
    return falls_apart(near, within)


def is_parting(web, value):
    """Whether the value is a parting of the web."""
    check_web(web)
    if not are_ascending_names(value) or len(value) > MAX_PARTING:
        return False
    if not all([place in web.places for place in value]):
        return False
    return _falls_apart_without(web, near_masks(web.places, web.ties), value)


def _few_places(web):
    """All ascending tuples of at most two places of the web, those of fewer places first."""
    return [()] + [(place,) for place in web.places] + list(pairs_of(web.places))


def all_partings(web):
    """The tuple of all partings, those of fewer places first, and those of equally many ascending."""
    check_web(web)
    near = near_masks(web.places, web.ties)
    return tuple([taken for taken in _few_places(web) if _falls_apart_without(web, near, taken)])


def least_parting(web):
    """The first one of all partings, None if there is none."""
    check_web(web)
    near = near_masks(web.places, web.ties)
    for taken in _few_places(web):
        if _falls_apart_without(web, near, taken):
            return taken
    return None


def held_level(web):
    """The number of the places of the least parting, 3 if there is none."""
    parting = least_parting(web)
    return MAX_PARTING + 1 if parting is None else len(parting)


def is_held(web):
    """Whether the web has at least four places and no parting."""
    return least_parting(web) is None and len(web.places) >= SMALL


def cut_places(web):
    """The ascending tuple of the places without which the web has more lots."""
    check_web(web)
    near = near_masks(web.places, web.ties)
    whole = full_mask(len(near))
    many = len(lot_masks(near, whole))
    cut = [index for index in range(len(near)) if len(lot_masks(near, whole & ~(1 << index))) > many]
    return tuple([web.places[index] for index in cut])


def _block_mask(near, pair):
    """The mask of the block with a tie, by the mask of its two places.

    A place is in it exactly if, without whichever other place, a route leads from it to one of the two.
    """
    whole = full_mask(len(near))
    block = whole
    for index in range(len(near)):
        taken = 1 << index
        block = block & (reach(near, whole & ~taken, pair & ~taken) | taken)
    return block


def all_blocks(web):
    """The ascending tuple of the blocks, as ascending tuples of places."""
    check_web(web)
    near = near_masks(web.places, web.ties)
    masks = [1 << index for index, others in enumerate(near) if others == 0]
    masks.extend([_block_mask(near, mask_of(web.places, tie)) for tie in web.ties])
    return tuple(sorted([names_of(web.places, mask) for mask in sorted(set(masks))]))


def block_with(web, a, b):
    """The block that has two tied places."""
    check_web(web)
    if not web.is_tied(a, b):
        raise InvalidTie("these places are not tied")
    return names_of(web.places, _block_mask(near_masks(web.places, web.ties), mask_of(web.places, (a, b))))


def inner_web(web, places):
    """The web of some of the places, told by an ascending tuple, and of all ties between them."""
    return Web(places, tuple([(a, b) for a, b in web.ties if a in places and b in places]))


def block_web(web, block):
    """The web of the places of a block and of all ties between them."""
    if block not in all_blocks(web):
        raise InvalidPart("this is no block of the web")
    return inner_web(web, block)


def block_doors(web):
    """The ascending tuple of the pairs of a cut place and a block that has it."""
    blocks = all_blocks(web)
    return tuple([(place, block) for place in cut_places(web) for block in blocks if place in block])
