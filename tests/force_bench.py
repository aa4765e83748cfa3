"""A bench as a test keeps it: a row of plain webs and pledges, straight from the words of the document."""

from tests.force import ahead, behind, lots_without, most_ways_of, partings_of, routes_of, tied
from tests.force_parts import is_loose_by_force, is_name_by_force, is_row
from wheelgrown.base.webs import Web
from wheelgrown.draw.drawings import is_drawable


def level_of(web):
    """The number of places of a parting of as few places as there is, 3 if there is none."""
    return min([len(parting) for parting in partings_of(web)], default=3)


def is_integer_by_force(value):
    return type(value) is int and abs(value) < 10 ** 60


def is_pledge_by_force(value):
    if not isinstance(value, tuple) or not value or not isinstance(value[0], str):
        return False
    kind, rest = value[0], value[1:]
    if kind in ("held", "loose", "drawable"):
        return rest == ()
    if kind == "level":
        return len(rest) == 1 and is_integer_by_force(rest[0]) and rest[0] in (1, 2, 3)
    if kind == "tied":
        return len(rest) == 2 and is_row(rest, is_name_by_force)
    return kind == "ways" and len(rest) == 3 and is_row(rest[:2], is_name_by_force) and is_integer_by_force(rest[2]) and rest[2] >= 0


def holds_by_force(web, pledge):
    kind = pledge[0]
    if kind == "held":
        return len(web) >= 4 and level_of(web) == 3
    if kind == "loose":
        return is_loose_by_force(web)
    if kind == "drawable":
        return len(lots_without(web, ())) == 1 and is_drawable(web)
    if kind == "level":
        return level_of(web) >= pledge[1]
    if not set(pledge[1:3]) <= set(web.places):
        return False
    if kind == "tied":
        return pledge[1:] in web.ties
    return most_ways_of(routes_of(web, *pledge[1:3])) >= pledge[3]


class PlainBench:
    """A row of pairs of webs and pledges, and the index of the present one."""

    def __init__(self, web):
        self.rows = [(web, ())]
        self.at = 0

    @property
    def web(self):
        return self.rows[self.at][0]

    @property
    def pledges(self):
        return self.rows[self.at][1]

    def go_on(self, web, pledges):
        before = level_of(self.web)
        self.rows = self.rows[:self.at + 1] + [(web, pledges)]
        self.at += 1
        return self.news(before)

    def news(self, before):
        return () if before == level_of(self.web) else (before, level_of(self.web))

    def go_by(self, many):
        before = level_of(self.web)
        self.at += many
        return self.news(before)

    def changed(self, web):
        """What a change to another web returns, or the first pledge that would not hold, as a list."""
        for pledge in self.pledges:
            if not holds_by_force(web, pledge):
                return [pledge]
        return self.go_on(web, self.pledges)


def made(web, change, *passed):
    """The web behind a change, or the name of the error and what it keeps, as a list."""
    places, ties = set(web.places), set(web.ties)
    if change == "join":
        for place in passed:
            if place not in places:
                return ["UnknownName", place]
        a, b = passed
        if tied(a, b) not in ties or a == b:
            return ["InvalidTie"]
        put = {tied(*[a if end == b else end for end in tie]) for tie in ties if tie != tied(a, b)}
        return Web(tuple(sorted(places - {b})), tuple(sorted(put)))
    if change == "grow":
        told = behind(web, passed[0])
        return ["InvalidStep"] if told is None else Web(tuple(told[0]), tuple(told[1]))
    if change == "shrink":
        return ahead(web, passed[0]) or ["InvalidStep"]
    words = passed[0].split(" ")[1:]
    return drawn(places, ties, words) if change == "draw" else erased(places, ties, words)


def drawn(places, ties, words):
    if len(words) == 1 and words[0] in places:
        return ["InvalidPlace"]
    if len(words) == 2 and tied(*words) in ties:
        return ["InvalidTie"]
    places = places | set(words)
    ties = ties | ({tied(*words)} if len(words) == 2 else set())
    if len(places) > 16 or len(ties) > 60:
        return ["TooMany", 16 if len(places) > 16 else 60]
    return Web(tuple(sorted(places)), tuple(sorted(ties)))


def erased(places, ties, words):
    for word in words:
        if word not in places:
            return ["UnknownName", word]
    if len(words) == 2:
        if tied(*words) not in ties:
            return ["InvalidTie"]
        return Web(tuple(sorted(places)), tuple(sorted(ties - {tied(*words)})))
    if len(places) == 1:
        return ["InvalidWeb"]
    return Web(tuple(sorted(places - set(words))), tuple(sorted(tie for tie in ties if words[0] not in tie)))
