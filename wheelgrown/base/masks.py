"""Sets of places as integers: the bit at an index stands for the place at this index."""


def near_masks(places, ties):
    """For each place the mask of its neighbours, as a list in the order of the places."""
    index_of = {place: index for index, place in enumerate(places)}
    near = [0] * len(places)
    for a, b in ties:
        one = index_of[a]
        other = index_of[b]
        near[one] = near[one] | (1 << other)
        near[other] = near[other] | (1 << one)
    return near


def full_mask(many):
    """The mask of the first so many indices."""
    return (1 << many) - 1


def bits_of(mask):
    """The ascending list of the indices in a mask."""
    return [index for index in range(mask.bit_length()) if (mask >> index) & 1]


def names_of(places, mask):
    """The ascending tuple of the places in a mask."""
    return tuple([places[index] for index in bits_of(mask)])


def mask_of(places, chosen):
    """The mask of those places that are chosen."""
    mask = 0
    for place in chosen:
        mask = mask | (1 << places.index(place))
    return mask


def touched_by(near, mask):
    """The mask of all neighbours of the places in a mask."""
    touched = 0
    for index in bits_of(mask):
        touched = touched | near[index]
    return touched


def reach(near, within, start):
    """The mask of all to which routes within a mask lead from its places in `start`."""
    found = start & within
    fresh = found
    while fresh:
        fresh = touched_by(near, fresh) & within & ~found
        found = found | fresh
    return found


def least_bit(mask):
    """The mask of the least index in a mask, 0 if it is empty."""
    return mask & -mask


def lot_masks(near, within):
    """The list of the masks of the lots of what is within a mask, by ascending least places."""
    lots = []
    left = within
    while left:
        lot = reach(near, left, least_bit(left))
        lots.append(lot)
        left = left & ~lot
    return lots


def falls_apart(near, within):
    """Whether what is within a mask has at least two lots."""
    return reach(near, within, least_bit(within)) != within
