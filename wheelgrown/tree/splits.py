"""How a whole block is split into its tree of parts.

A piece is a list of sides. A side is a triple (a, b, mark) of two places, ascending, and of 0 for a tie, or of the
number of a cut: there two pieces were one, and both have a side for the other one.
"""

from wheelgrown.base.masks import full_mask, least_bit, mask_of, names_of, near_masks, reach
from wheelgrown.base.webs import pairs_of


def _places_of(piece):
    return tuple(sorted(set([place for a, b, _ in piece for place in (a, b)])))


def _kind_of(piece):
    """The kind of a piece that cannot be cut, `held` also for each one that can be."""
    many = len(_places_of(piece))
    if many == 2:
        return "bundle"
    # Two sides at least are at each place; so there are just two.
    return "ring" if len(piece) == many else "held"


def _lot_beside(places, near, pair):
    """The places of a lot without the pair, () if all others are in it."""
    left = full_mask(len(near)) & ~mask_of(places, pair)
    lot = reach(near, left, least_bit(left))
    return names_of(places, lot) if lot != left else ()


def _cut_off(piece):
    """The sides that two places cut off from the others of a piece, behind these places; None if there are none."""
    if _kind_of(piece) != "held":
        return None
    ends = [(a, b) for a, b, _ in piece]
    for pair in ends:
        if ends.count(pair) > 1:
            return pair, [side for side in piece if side[:2] == pair]
    places = _places_of(piece)
    near = near_masks(places, ends)
    for pair in pairs_of(places):
        lot = _lot_beside(places, near, pair)
        if lot != ():
            return pair, [side for side in piece if side[0] in lot or side[1] in lot]
    return None


def _cut_pieces(web):
    """The list of the pieces of a whole block that cannot be cut, and the number of cuts."""
    ready = []
    waiting = [[(a, b, 0) for a, b in web.ties]]
    many = 0
    while waiting:
        piece = waiting.pop()
        cut = _cut_off(piece)
        if cut is None:
            ready.append(piece)
        else:
            many += 1
            (a, b), off = cut
            waiting.append(off + [(a, b, many)])
            waiting.append([side for side in piece if side not in off] + [(a, b, many)])
    return ready, many


def _has_mark(piece, mark):
    return any([side[2] == mark for side in piece])


def _joined_alike(pieces, mark):
    """The pieces, where two rings or two bundles with a side for one another are one again."""
    both = [piece for piece in pieces if _has_mark(piece, mark)]
    kinds = [_kind_of(piece) for piece in both]
    if kinds[0] != kinds[1] or kinds[0] == "held":
        return pieces
    others = [piece for piece in pieces if not _has_mark(piece, mark)]
    return others + [[side for piece in both for side in piece if side[2] != mark]]


def _part_of(piece):
    """The part that a piece is, its ties without the sides for other pieces."""
    return (_kind_of(piece), _places_of(piece), tuple(sorted([(a, b) for a, b, mark in piece if mark == 0])))


def _doors_of(pieces):
    """The ascending tuple of the doors between pieces, of which each side for another one stands in two."""
    doors = []
    for j, other in enumerate(pieces):
        for i, one in enumerate(pieces[:j]):
            doors.extend([((a, b), i, j) for a, b, mark in one if mark > 0 and (a, b, mark) in other])
    return tuple(sorted(doors))


def tree_of(web):
    """The parts and the doors of the tree of a whole block."""
    pieces, many = _cut_pieces(web)
    for mark in range(1, many + 1):
        pieces = _joined_alike(pieces, mark)
    pieces = sorted(pieces, key=_places_of)
    return tuple([_part_of(piece) for piece in pieces]), _doors_of(pieces)
