"""Steps: ties that are put in, and places that are split."""

from wheelgrown.base.choices import each_choice
from wheelgrown.base.webs import MAX_PLACES, MAX_TIES, Web, check_web, is_tie, pairs_of, tie_of
from wheelgrown.base.words import are_ascending_names, are_different_names, are_names, is_name, is_naming
from wheelgrown.errors import InvalidOperation, InvalidPlace, InvalidStep

# A split moves at least so many neighbours, and leaves at least so many.
MIN_MOVED = 2


def _is_like_split(place, new, moved):
    """Whether these are different names, the last ones told by an ascending tuple of at least two."""
    if not are_ascending_names(moved) or len(moved) < MIN_MOVED:
        return False
    return are_different_names((place, new, *moved))


def is_like_step(value):
    """Whether the value has the form of a step, in whatever web."""
    if not isinstance(value, tuple) or value == ():
        return False
    if value[0] == "split" and len(value) == 4:
        return _is_like_split(value[1], value[2], value[3])
    return value[0] == "tie" and is_tie(value[1:])


def _can_put_in(web, a, b):
    return a in web.places and b in web.places and (a, b) not in web.ties


def _can_split(web, place, new, moved):
    if place not in web.places or new in web.places or len(web.places) == MAX_PLACES:
        return False
    near = web.neighbours(place)
    return len(moved) <= len(near) - MIN_MOVED and all([other in near for other in moved])


def is_step(web, value):
    """Whether the value is a step that can be done in the web."""
    check_web(web)
    # Each step makes one tie more.
    if not is_like_step(value) or len(web.ties) == MAX_TIES:
        return False
    if value[0] == "tie":
        return _can_put_in(web, value[1], value[2])
    return _can_split(web, value[1], value[2], value[3])


def made_behind(web, step):
    """The web behind a step that can be done in the web."""
    if step[0] == "tie":
        return web.with_tie(step[1], step[2])
    _, place, new, moved = step
    loose = [tie_of(place, other) for other in moved]
    kept = [tie for tie in web.ties if tie not in loose]
    put = [tie_of(new, other) for other in (place, *moved)]
    return Web(tuple(sorted([*web.places, new])), tuple(sorted(kept + put)))


def web_behind(web, step):
    """The web behind a step."""
    if not is_step(web, step):
        raise InvalidStep("this is no step that can be done in the web")
    return made_behind(web, step)


def last_split(web, place, new):
    """The split of one of two tied places that leads to the web by making the other one, None if there is none."""
    moved = tuple([other for other in web.neighbours(new) if other != place])
    left = len(web.neighbours(place)) - 1
    if len(moved) < MIN_MOVED or left < MIN_MOVED or not web.is_thin(place, new):
        return None
    return ("split", place, new, moved)


def is_last_step(web, value):
    """Whether the value is a step that leads from some web to this one."""
    check_web(web)
    if not is_like_step(value):
        return False
    if value[0] == "tie":
        return value[1:] in web.ties
    _, place, new, _ = value
    return tie_of(place, new) in web.ties and last_split(web, place, new) == value


def web_ahead(web, step):
    """The web from which a last step leads to this one."""
    if not is_last_step(web, step):
        raise InvalidStep("no web leads to this one by this step")
    if step[0] == "tie":
        return web.without_tie(step[1], step[2])
    return web.drawn_together(step[1], step[2])


def tie_steps(web):
    """All steps of the first kind that can be done, ascending."""
    check_web(web)
    if len(web.ties) < MAX_TIES:
        for a, b in pairs_of(web.places):
            if (a, b) not in web.ties:
                yield ("tie", a, b)


def split_steps(web, new):
    """All steps of the second kind that can be done with this name of the new place, ascending."""
    check_web(web)
    if not is_name(new) or new in web.places:
        raise InvalidPlace("a new place is told by a name that no place has")
    if len(web.places) < MAX_PLACES and len(web.ties) < MAX_TIES:
        for place in web.places:
            near = web.neighbours(place)
            for choice in each_choice(len(near)):
                if MIN_MOVED <= len(choice) <= len(near) - MIN_MOVED:
                    yield ("split", place, new, tuple([near[index] for index in choice]))


def last_steps(web):
    """The ascending tuple of all steps that lead to this web from another one."""
    check_web(web)
    splits = [last_split(web, a, b) for a, b in web.ties] + [last_split(web, b, a) for a, b in web.ties]
    ties = [("tie", a, b) for a, b in web.ties]
    return tuple(sorted(ties + [split for split in splits if split is not None]))


def _names_in(step):
    """The tuple of the names that a step tells."""
    return step[1:] if step[0] == "tie" else step[1:3] + step[3]


def _are_new_names(names, value):
    """Whether the value is a dict from names, these among them, to different names."""
    if not isinstance(value, dict) or not are_names(tuple(value)):
        return False
    return is_naming(tuple(value), value) and all([name in value for name in names])


def renamed_step(step, names):
    """A step with other names, by a dict from at least its own names to different names."""
    if not is_like_step(step):
        raise InvalidStep("this has not the form of a step")
    if not _are_new_names(_names_in(step), names):
        raise InvalidOperation("new names are told by a dict from names, those of the step among them")
    if step[0] == "tie":
        a, b = tie_of(names[step[1]], names[step[2]])
        return ("tie", a, b)
    _, place, new, moved = step
    return ("split", names[place], names[new], tuple(sorted([names[other] for other in moved])))
