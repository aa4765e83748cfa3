"""What makes parts and doors a tree of parts."""

from wheelgrown.base.masks import falls_apart, full_mask, near_masks
from wheelgrown.base.webs import MAX_PLACES, MAX_TIES, Web, are_ties, is_tie
from wheelgrown.base.wheels import whole_ring
from wheelgrown.base.words import are_ascending_names, is_ascending, is_integer
from wheelgrown.part.partings import is_held

MIN_BUNDLE = 3


def _is_part(value):
    """Whether the value is a triple of a kind, of at least two places, and of ties between them."""
    if not isinstance(value, tuple) or len(value) != 3:
        return False
    kind, places, ties = value
    if kind not in ("bundle", "held", "ring") or not are_ascending_names(places):
        return False
    return len(places) >= 2 and are_ties(places, ties)


def _is_door(parts, value):
    """Whether the value is a triple of a pair of places, and of the ascending indices of two parts that have them."""
    if not isinstance(value, tuple) or len(value) != 3:
        return False
    pair, i, j = value
    if not is_tie(pair) or not is_integer(i) or not is_integer(j) or not 0 <= i < j < len(parts):
        return False
    return all([place in parts[i][1] and place in parts[j][1] for place in pair])


def _are_parts(value):
    """Whether the value is a tuple of at least one part, ascending by places."""
    if not isinstance(value, tuple) or value == () or not all([_is_part(part) for part in value]):
        return False
    return is_ascending([places for _, places, _ in value])


def _are_doors(parts, value):
    """Whether the value is an ascending tuple of doors between parts."""
    if not isinstance(value, tuple) or not all([_is_door(parts, door) for door in value]):
        return False
    return is_ascending(value)


def sides_of(parts, doors, index):
    """The ascending tuple of the sides of a part, where equal ones stand side by side."""
    pairs = [pair for pair, i, j in doors if index in (i, j)]
    return tuple(sorted(list(parts[index][2]) + pairs))


def _joined_places(parts):
    return tuple(sorted(set([place for _, places, _ in parts for place in places])))


def _all_ties(parts):
    """The list of the ties of all parts, each as often as it is there."""
    return [tie for _, _, ties in parts for tie in ties]


def joined_web(parts):
    """The web of all places and all ties of the parts of a tree."""
    return Web(_joined_places(parts), tuple(sorted(_all_ties(parts))))


def _make_a_web(parts):
    """Whether no tie is one of two parts, and there are not more places and ties than a web has."""
    ties = _all_ties(parts)
    return len(set(ties)) == len(ties) and len(ties) <= MAX_TIES and len(_joined_places(parts)) <= MAX_PLACES


def _hang_as_a_tree(parts, doors):
    """Whether from each part to each other one leads just one way along doors."""
    near = near_masks(list(range(len(parts))), [(i, j) for _, i, j in doors])
    return len(doors) == len(parts) - 1 and not falls_apart(near, full_mask(len(parts)))


def _join_right_kinds(parts, doors):
    """Whether no door joins two rings or two bundles."""
    return all([parts[i][0] != parts[j][0] or parts[i][0] == "held" for _, i, j in doors])


def _share_by_doors(parts, doors):
    """Whether all doors of a tree on the way between two parts with a common place have it in their pair."""
    for place in _joined_places(parts):
        having = [places for _, places, _ in parts if place in places]
        between = [pair for pair, _, _ in doors if place in pair]
        # Just then these parts hang together by these doors alone, and there is no other way in a tree.
        if len(having) != len(between) + 1:
            return False
    return True


def _is_of_its_kind(kind, places, sides):
    """Whether a part with these sides is a ring, a bundle or a held part, as it is called."""
    if kind == "bundle":
        return len(places) == 2 and len(sides) >= MIN_BUNDLE
    if len(sides) > MAX_TIES or not is_ascending(sides):
        return False
    web = Web(places, sides)
    return is_held(web) if kind == "held" else whole_ring(web) is not None


def is_tree(parts, doors):
    """Whether these are the parts and the doors of a tree of parts."""
    if not _are_parts(parts) or not _are_doors(parts, doors) or not _make_a_web(parts):
        return False
    if not _hang_as_a_tree(parts, doors) or not _join_right_kinds(parts, doors) or not _share_by_doors(parts, doors):
        return False
    return all([_is_of_its_kind(part[0], part[1], sides_of(parts, doors, index)) for index, part in enumerate(parts)])
