"""How places are taken out of a web one after the other, each with few neighbours left."""

from wheelgrown.base.masks import bits_of, full_mask, near_masks

MOST_LEFT = 2


def _taken_out(near, left, index):
    """The masks of neighbours without an index, where two neighbours that it had are tied."""
    beside = near[index] & left
    return [(others | beside) & ~(1 << at) if (beside >> at) & 1 else others for at, others in enumerate(near)]


def _is_few(near, left, index):
    """Whether an index has few enough neighbours left to be taken out."""
    return len(bits_of(near[index] & left)) <= MOST_LEFT


def can_peel(web, order):
    """Whether all places of the web can be taken out in this order."""
    near = near_masks(web.places, web.ties)
    left = full_mask(len(near))
    for place in order:
        index = web.places.index(place)
        if not _is_few(near, left, index):
            return False
        left = left & ~(1 << index)
        near = _taken_out(near, left, index)
    return True


def peeled(web):
    """The tuple of places that can be taken out of the web one after the other, until each one left has too many.

    Which one is taken out first does not matter: if all can be taken out, all can be taken out behind it, too.
    """
    near = near_masks(web.places, web.ties)
    left = full_mask(len(near))
    order = []
    few = [index for index in range(len(near)) if _is_few(near, left, index)]
    while few:
        index = few[0]
        order.append(web.places[index])
        left = left & ~(1 << index)
        near = _taken_out(near, left, index)
        few = [other for other in bits_of(left) if _is_few(near, left, other)]
    return tuple(order)
