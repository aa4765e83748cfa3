"""A bench: a web that is worked on, with pledges that are to hold, and with all changes to take back."""

from wheelgrown.base.webs import check_place, check_web, told_by
from wheelgrown.base.words import is_count
from wheelgrown.errors import InvalidNumber, InvalidOperation, NothingToUndo, ParseError, Refused, TooMany
from wheelgrown.grow.steps import web_ahead, web_behind
from wheelgrown.use.pledges import holds, is_pledge
from wheelgrown.use.stands import Trial, first_stand

MAX_PLEDGES = 10


def _told_item(line):
    """The place or the tie that a line tells."""
    item = told_by(line)
    if item is None:
        raise ParseError(None)
    return item


def _with_item(web, item):
    """The web with a place more, or with a tie and its places more."""
    if isinstance(item, str):
        return web.with_place(item)
    made = web
    for place in item:
        if place not in made.places:
            made = made.with_place(place)
    return made.with_tie(item[0], item[1])


def _check_many(many):
    if not is_count(many):
        raise InvalidNumber(many)


class Bench:
    """A web that is worked on. A bench changes."""

    def __init__(self, web):
        check_web(web)
        self._stand = first_stand(web)

    @property
    def web(self):
        """The web as it is now."""
        return self._stand.work

    @property
    def level(self):
        """The level at which the web is held."""
        return self._stand.held

    @property
    def pledges(self):
        """The tuple of the pledges in the order of demands."""
        return self._stand.demands

    def _put(self, stand):
        """Change to another stand, and tell the news."""
        before = self._stand.held
        self._stand = stand
        return () if stand.held == before else (before, stand.held)

    def _go_on(self, web):
        """Change to another web if all pledges hold of it, and tell the news."""
        for pledge in self.pledges:
            if not holds(web, pledge):
                raise Refused(pledge)
        return self._put(self._stand.gone_on(web, self.pledges))

    def draw(self, line):
        """Put in the place, or the tie and its places, of a line."""
        return self._go_on(_with_item(self.web, _told_item(line)))

    def erase(self, line):
        """Take out the place and its ties, or the tie, of a line."""
        item = _told_item(line)
        for word in line.split(" ")[1:]:
            check_place(self.web, word)
        if isinstance(item, str):
            return self._go_on(self.web.without_places((item,)))
        return self._go_on(self.web.without_tie(item[0], item[1]))

    def grow(self, step):
        """Go on to the web behind a step."""
        return self._go_on(web_behind(self.web, step))

    def shrink(self, step):
        """Go back to the web ahead of a last step."""
        return self._go_on(web_ahead(self.web, step))

    def join(self, a, b):
        """Draw the tie between two places together to the first one."""
        return self._go_on(self.web.drawn_together(a, b))

    def demand(self, pledge):
        """Demand that a pledge holds from now on."""
        if not is_pledge(pledge) or pledge in self.pledges:
            raise InvalidOperation("this is no pledge, or it is there already")
        if len(self.pledges) == MAX_PLEDGES:
            raise TooMany(MAX_PLEDGES)
        if not holds(self.web, pledge):
            raise Refused(pledge)
        return self._put(self._stand.gone_on(self.web, (*self.pledges, pledge)))

    def waive(self, pledge):
        """Demand a pledge no longer."""
        if not is_pledge(pledge) or pledge not in self.pledges:
            raise InvalidOperation("this pledge is not there")
        left = tuple([other for other in self.pledges if other != pledge])
        return self._put(self._stand.gone_on(self.web, left))

    def _go_by(self, many, later):
        """Change to the stand so many changes later, which are less than 0 for earlier, and tell the news."""
        stand = self._stand.gone_by(later)
        if stand is None:
            raise NothingToUndo(many)
        return self._put(stand)

    def undo(self, *, many=1):
        """Take back so many changes."""
        _check_many(many)
        return self._go_by(many, -many)

    def redo(self, *, many=1):
        """Do so many changes again that were taken back."""
        _check_many(many)
        return self._go_by(many, many)

    def trial(self):
        """What gives this bench to a block, behind which the bench is as it was before."""
        return Trial(self)

    def during(self, call):
        """What a function returns for this bench, which is then as it was before."""
        with self.trial() as same:
            return call(same)

    def twin(self):
        """An independent copy with all changes to take back and to do again."""
        other = Bench(self.web)
        other._stand = self._stand
        return other

    def __contains__(self, value):
        return value in self._stand.rows or (is_pledge(value) and value in self.pledges)

    def __len__(self):
        return len(self.pledges)

    def __iter__(self):
        return iter(self._stand.rows)

    def __eq__(self, other):
        return isinstance(other, Bench) and self.web == other.web and self.pledges == other.pledges

    def __str__(self):
        return f"bench of {len(self.web.places)} places, {len(self.web.ties)} ties, {len(self.pledges)} pledges"
