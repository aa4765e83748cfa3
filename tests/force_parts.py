"""Slow and plain looks at trees of parts and at drawings, straight from the words of the document."""

from itertools import combinations, permutations

from tests.force import cut_places_of, is_held_by_force, lots_of, lots_without, tied
from wheelgrown.base.webs import Web

NAMES = "abcdefghijklmnopqrstuvwxyz"


def is_name_by_force(value):
    return isinstance(value, str) and 1 <= len(value) <= 8 and set(value) <= set(NAMES)


def is_row(value, judge):
    """Whether the value is an ascending tuple of what is judged so."""
    return isinstance(value, tuple) and all(judge(item) for item in value) and list(value) == sorted(set(value))


def is_pair_by_force(value):
    return is_row(value, is_name_by_force) and len(value) == 2


def have_form(parts, doors):
    """Whether these have the form of [10.1], and are ascending as the tree of parts tells it."""
    if not isinstance(parts, tuple) or parts == () or not isinstance(doors, tuple):
        return False
    for part in parts:
        if not isinstance(part, tuple) or len(part) != 3 or part[0] not in ("ring", "bundle", "held"):
            return False
        if not is_row(part[1], is_name_by_force) or not is_row(part[2], is_pair_by_force):
            return False
        if not all(set(tie) <= set(part[1]) for tie in part[2]):
            return False
    places = [part[1] for part in parts]
    if places != sorted(places) or len(set(places)) < len(places):
        return False
    for door in doors:
        if not isinstance(door, tuple) or len(door) != 3 or not is_pair_by_force(door[0]):
            return False
        if not all(type(index) is int and 0 <= index < len(parts) for index in door[1:]) or door[1] >= door[2]:
            return False
        if not set(door[0]) <= set(places[door[1]]) & set(places[door[2]]):
            return False
    return list(doors) == sorted(set(doors))


def sides_by_force(parts, doors, index):
    return sorted(list(parts[index][2]) + [door[0] for door in doors if index in door[1:]])


def ways_between(doors, one, other, gone=()):
    """All ways along doors from one part to another one, as lists of doors, no part twice."""
    if one == other:
        return [[]]
    found = []
    for door in doors:
        if one in door[1:]:
            ahead = door[1] + door[2] - one
            if ahead not in gone:
                found += [[door] + rest for rest in ways_between(doors, ahead, other, gone + (one,))]
    return found


def is_one_ring(places, sides):
    near = {place: [side for side in sides if place in side] for place in places}
    return all(len(row) == 2 for row in near.values()) and len(lots_of(places, sides)) == 1


def rules_broken(parts, doors):
    """The numbers of the rules of [10.2] that do not hold, where the form is right."""
    broken = set()
    for index, (kind, places, ties) in enumerate(parts):
        sides = sides_by_force(parts, doors, index)
        different = len(set(sides)) == len(sides)
        if kind == "ring" and not (len(places) >= 3 and different and is_one_ring(places, sides)):
            broken.add(1)
        if kind == "bundle" and not (len(places) == 2 and len(sides) >= 3 and len(ties) <= 1):
            broken.add(2)
        if kind == "held":
            small = len(places) < 1 or len(places) > 16 or len(sides) > 60
            if small or not different or not is_held_by_force(Web(places, tuple(sides))):
                broken.add(3)
    for one, other in combinations(range(len(parts)), 2):
        ways = ways_between(doors, one, other)
        if len(ways) != 1:
            broken.add(4)
        shared = set(parts[one][1]) & set(parts[other][1])
        if any(not shared <= set(door[0]) for way in ways for door in way):
            broken.add(7)
    for _, i, j in doors:
        if parts[i][0] == parts[j][0] and parts[i][0] != "held":
            broken.add(5)
    ties = [tie for part in parts for tie in part[2]]
    if len(set(ties)) < len(ties):
        broken.add(6)
    if len({place for part in parts for place in part[1]}) > 16 or len(set(ties)) > 60:
        broken.add(8)
    return sorted(broken)


def joined_by_force(parts):
    places = sorted({place for part in parts for place in part[1]})
    return Web(tuple(places), tuple(sorted({tie for part in parts for tie in part[2]})))


def is_whole_by_force(web):
    return len(web.places) >= 3 and len(lots_without(web, ())) == 1 and cut_places_of(web) == ()


def parting_pairs_by_force(web):
    return tuple(pair for pair in combinations(web.places, 2) if len(lots_without(web, pair)) >= 2)


def is_loose_by_force(web):
    """Whether all places can be taken out, each when it has at most two neighbours, that are tied behind it.

    This is so exactly if no four places become tied to one another by drawing ties together.
    """
    near = {place: set(web.neighbours(place)) for place in web.places}
    while near:
        few = [place for place in near if len(near[place]) <= 2]
        if not few:
            return False
        beside = near.pop(few[0])
        for place in beside:
            near[place] = near[place] - {few[0]} | beside - {place}
    return True


def walk_of(turns, a, b):
    """The places of the rim that goes on from a to b, begun there."""
    rim, here = [], (a, b)
    while not rim or here != (a, b):
        rim.append(here[0])
        turn = list(turns[here[1]])
        here = (here[1], (turn + turn)[turn.index(here[0]) + 1])
    return tuple(rim)


def rims_by_force(turns):
    """All rims, as often as they come, by walking along each tie in each direction once."""
    if len(turns) == 1:
        return [tuple(turns)]
    left = [(a, b) for a in turns for b in turns[a]]
    rims = []
    while left:
        rim = walk_of(turns, *left[0])
        for pair in zip(rim, rim[1:] + rim[:1]):
            left.remove(pair)
        rims.append(min(rim[k:] + rim[:k] for k in range(len(rim))))
    return sorted(rims)


def all_turns(web):
    """All dicts from the places to their neighbours in all orders round them, the least ones first."""
    rows = [{}]
    for place in web.places:
        near = web.neighbours(place)
        rows = [{**row, place: near[:1] + order} for row in rows for order in permutations(near[1:])]
    return rows


def is_drawn(web, turns):
    return len(lots_without(web, ())) == 1 and len(web.places) + len(rims_by_force(turns)) == len(web.ties) + 2


def drawings_by_force(web):
    """All turns of drawings of a web that hangs together."""
    return [turns for turns in all_turns(web) if is_drawn(web, turns)]


def has_bar(web):
    """Whether five places, or three and three, that come of it by drawing ties together, are tied as a bar tells it."""
    seen = set()
    waiting = [(web.places, web.ties)]
    while waiting:
        places, ties = waiting.pop()
        if any(all(pair in ties for pair in combinations(five, 2)) for five in combinations(places, 5)):
            return True
        for six in combinations(places, 6):
            for left in combinations(six, 3):
                if all(tied(a, b) in ties for a in left for b in set(six) - set(left)):
                    return True
        for a, b in ties:
            less = tuple(place for place in places if place != b)
            put = {tied(*[a if end == b else end for end in tie]) for tie in ties if tie != (a, b)}
            if (less, tuple(sorted(put))) not in seen:
                seen.add((less, tuple(sorted(put))))
                waiting.append((less, tuple(sorted(put))))
    return False
