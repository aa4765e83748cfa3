"""Spots of webs, and how places of another web are put into them."""

from wheelgrown.base.masks import bits_of, falls_apart, full_mask, least_bit, mask_of, names_of, near_masks, touched_by
from wheelgrown.base.words import are_ascending_names


def are_spots(web, value):
    """Whether the value is a tuple of spots of the web, no two of which have a place in common."""
    if not isinstance(value, tuple) or not all([are_ascending_names(spot) and spot != () for spot in value]):
        return False
    inner = [place for spot in value for place in spot]
    if len(set(inner)) < len(inner) or not all([place in web.places for place in inner]):
        return False
    near = near_masks(web.places, web.ties)
    return not any([falls_apart(near, mask_of(web.places, spot)) for spot in value])


def are_spots_tied(web, one, other):
    """Whether the web has a tie between two spots that have no place in common."""
    return any([(a in one and b in other) or (a in other and b in one) for a, b in web.ties])


def _hanging_masks(near):
    """For each index the list of the masks that hang together, and of which it is the least index."""
    hanging = [[] for _ in near]
    for mask in range(1, full_mask(len(near)) + 1):
        if not falls_apart(near, mask):
            hanging[least_bit(mask).bit_length() - 1].append(mask)
    return hanging


def _each_choice_of_spots(near, many):
    """All ways to put some indices into so many spots, as tuples of masks."""
    hanging = _hanging_masks(near)
    waiting = [((), full_mask(len(near)))]
    while waiting:
        spots, free = waiting.pop()
        if len(spots) == many:
            yield spots
        elif len(spots) + len(bits_of(free)) >= many:
            # The least free index is left aside, or is the least one of the next spot.
            first = least_bit(free)
            waiting.append((spots, free & ~first))
            ahead = [mask for mask in hanging[first.bit_length() - 1] if (mask & ~free) == 0]
            waiting.extend([((*spots, mask), free & ~mask) for mask in ahead])


def _near_spots(near, spots):
    """For each spot the mask of the indices of the spots to which it is tied."""
    touched = [touched_by(near, spot) & ~spot for spot in spots]
    return [sum([1 << at for at, spot in enumerate(spots) if spot & mask]) for mask in touched]


def _matched(wanted, near, chosen):
    """The list of different indices, begun with those chosen, that are tied as it is wanted, None if there is none."""
    at = len(chosen)
    if at == len(wanted):
        return chosen
    needed = sum([1 << chosen[other] for other in bits_of(wanted[at]) if other < at])
    many = len(bits_of(wanted[at]))
    for index, others in enumerate(near):
        if index not in chosen and (needed & ~others) == 0 and many <= len(bits_of(others)):
            found = _matched(wanted, near, chosen + [index])
            if found is not None:
                return found
    return None


def spots_for(web, small):
    """The list of spots of the web for the places of another one, in their order, None if there is no model of it."""
    near = near_masks(web.places, web.ties)
    wanted = near_masks(small.places, small.ties)
    for spots in _each_choice_of_spots(near, len(wanted)):
        found = _matched(wanted, _near_spots(near, spots), [])
        if found is not None:
            return [names_of(web.places, spots[index]) for index in found]
    return None
