"""Trees of the parts of blocks."""

from wheelgrown.base.webs import Web, check_place, check_web, pairs_of, tie_of
from wheelgrown.base.words import is_integer, is_naming
from wheelgrown.errors import InvalidNumber, InvalidOperation, InvalidPart, InvalidTie
from wheelgrown.part.partings import cut_places
from wheelgrown.tree.rules import is_tree, joined_web, sides_of
from wheelgrown.tree.splits import tree_of

MIN_WHOLE = 3


class PartTree:
    """Rings, bundles and held parts, and the doors between them. A tree of parts never changes."""

    def __init__(self, parts, doors):
        if not is_tree(parts, doors):
            raise InvalidPart("no tree of parts has these parts and doors")
        self._parts = parts
        self._doors = doors
        self._joined = joined_web(parts)

    @classmethod
    def of_web(cls, web):
        """The tree of a whole block."""
        if not is_whole_block(web):
            raise InvalidOperation("the web is no whole block")
        parts, doors = tree_of(web)
        return cls(parts, doors)

    @property
    def parts(self):
        """The tuple of the parts, ascending by places."""
        return self._parts

    @property
    def doors(self):
        """The ascending tuple of the doors."""
        return self._doors

    @property
    def joined(self):
        """The web of all places and all ties of the parts."""
        return self._joined

    @property
    def parting_pairs(self):
        """The ascending tuple of the pairs of places that part the joined web."""
        pairs = [pair for pair, _, _ in self._doors]
        for index, (kind, places, _) in enumerate(self._parts):
            if kind == "ring":
                sides = sides_of(self._parts, self._doors, index)
                pairs.extend([pair for pair in pairs_of(places) if pair not in sides])
        return tuple(sorted(set(pairs)))

    def _check_index(self, index):
        if not is_integer(index) or not 0 <= index < len(self._parts):
            raise InvalidNumber(index)

    def __getitem__(self, index):
        self._check_index(index)
        return self._parts[index]

    def sides(self, index):
        """The ascending tuple of the sides of a part, where equal ones stand side by side."""
        self._check_index(index)
        return sides_of(self._parts, self._doors, index)

    def part_web(self, index):
        """The web of the places of a part with its sides as ties."""
        sides = self.sides(index)
        return Web(self._parts[index][1], tuple(sorted(set(sides))))

    def beside(self, index):
        """The ascending tuple of the indices of the parts to which the doors of a part lead."""
        self._check_index(index)
        before = [i for _, i, j in self._doors if j == index]
        behind = [j for _, i, j in self._doors if i == index]
        return tuple(sorted(before + behind))

    def part_with(self, a, b):
        """The index of the part that has the tie between two places."""
        if not self._joined.is_tied(a, b):
            raise InvalidTie("these places are not tied")
        return [index for index, (_, _, ties) in enumerate(self._parts) if tie_of(a, b) in ties][0]

    def parts_at(self, place):
        """The ascending tuple of the indices of the parts with a place."""
        check_place(self._joined, place)
        return tuple([index for index, (_, places, _) in enumerate(self._parts) if place in places])

    def renamed(self, names):
        """The tree with other names, by a dict from just its places to different names."""
        if not is_naming(self._joined.places, names):
            raise InvalidOperation("new names are told by a dict from just the places to different names")
        # Each whole block has one tree only.
        return PartTree.of_web(self._joined.renamed(names))

    def __contains__(self, value):
        return value in self._parts

    def __len__(self):
        return len(self._parts)

    def __iter__(self):
        return iter(self._parts)

    def __eq__(self, other):
        return isinstance(other, PartTree) and self._parts == other._parts and self._doors == other._doors

    def __str__(self):
        return f"tree of {len(self._parts)} parts, {len(self._doors)} doors"


def is_whole_block(web):
    """Whether the web has at least three places, and is a block of itself."""
    check_web(web)
    return len(web.places) >= MIN_WHOLE and web.hangs and cut_places(web) == ()


def is_tree_of(web, value):
    """Whether the value is the tree of parts of which the web is the joined web, as a pair."""
    check_web(web)
    if not isinstance(value, tuple) or len(value) != 2:
        return False
    parts, doors = value
    return is_tree(parts, doors) and joined_web(parts) == web
