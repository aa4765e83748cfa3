"""All growths of a web: how many there are, and in which order."""

from wheelgrown.base.webs import check_web
from wheelgrown.base.wheels import wheels_of
from wheelgrown.base.words import is_count
from wheelgrown.errors import InvalidGrowth, InvalidNumber, TooMany
from wheelgrown.grow.growths import is_growth
from wheelgrown.grow.spare import spare_steps
from wheelgrown.grow.steps import web_ahead
from wheelgrown.part.partings import is_held

MAX_WEBS = 500

# A held web is told by its ties, as each of its places has some. A way back is a dict from the ties of all held webs
# on it to pairs: the wheels of a web, and its last steps from held webs, each beside the ties of the web ahead. The
# webs with more ties stand first, so each web stands before those that are ahead of it.


def _way_back(web):
    """The way back from a web, an empty dict if it is not held."""
    webs = [web] if is_held(web) else []
    known = {web.ties}
    found = {}
    while len(found) < len(webs):
        here = webs[len(found)]
        steps = [(step, web_ahead(here, step)) for step in spare_steps(here)]
        found[here.ties] = (wheels_of(here), [(step, other.ties) for step, other in steps])
        for _, other in steps:
            if other.ties not in known:
                known.add(other.ties)
                webs.append(other)
        if len(webs) > MAX_WEBS:
            raise TooMany(MAX_WEBS)
    return found


def _numbers_along(back):
    """The dict from the ties of all webs on a way back to the numbers of their growths."""
    many = {}
    for ties in list(back)[::-1]:
        wheels, steps = back[ties]
        many[ties] = len(wheels) + sum([many[other] for _, other in steps])
    return many


def count_growths(web):
    """The number of all growths of the web."""
    return _numbers_along(_way_back(web)).get(web.ties, 0)


def _last_with(steps, many, number):
    """Of the growths with steps, that with a number: its last step, and the ties and the number of what is ahead."""
    at = 0
    left = number
    while left >= many[steps[at][1]]:
        left -= many[steps[at][1]]
        at += 1
    step, ties = steps[at]
    return step, ties, left


def _growth_with(back, many, ties, number):
    """The growth with a number of the web with these ties."""
    found = []
    here = ties
    left = number
    while left >= len(back[here][0]):
        wheels, steps = back[here]
        step, here, left = _last_with(steps, many, left - len(wheels))
        found.append(step)
    return (back[here][0][left], tuple(found[::-1]))


def each_growth(web):
    """All growths of the web: those without steps first, the others by ascending last steps."""
    back = _way_back(web)
    many = _numbers_along(back)
    for number in range(many.get(web.ties, 0)):
        yield _growth_with(back, many, web.ties, number)


def growth_at(web, number):
    """The growth of the web with this number in the order of all."""
    check_web(web)
    if not is_count(number):
        raise InvalidNumber(number)
    back = _way_back(web)
    many = _numbers_along(back)
    if number >= many.get(web.ties, 0):
        raise InvalidNumber(number)
    return _growth_with(back, many, web.ties, number)


def number_of(web, value):
    """The number of a growth of the web in the order of all."""
    if not is_growth(web, value):
        raise InvalidGrowth("this is no growth of the web")
    back = _way_back(web)
    many = _numbers_along(back)
    wheel, steps = value
    number = 0
    here = web.ties
    for last in steps[::-1]:
        wheels, before = back[here]
        ahead = [step for step, _ in before].index(last)
        number += len(wheels) + sum([many[other] for _, other in before[:ahead]])
        here = before[ahead][1]
    return number + back[here][0].index(wheel)


def _all_spokes(web):
    """The list of the numbers of spokes of all wheels on the way back from a web."""
    return [len(ring) for wheels, _ in _way_back(web).values() for _, ring in wheels]


def least_spokes(web):
    """The least number of spokes with which a growth of the web begins, None if it is not held."""
    return min(_all_spokes(web), default=None)


def most_spokes(web):
    """The greatest number of spokes with which a growth of the web begins, None if it is not held."""
    return max(_all_spokes(web), default=None)
