"""Growths: wheels, and steps that can be done one behind the other."""

from wheelgrown.base.webs import check_web
from wheelgrown.base.wheels import is_wheel, plain_ring, wheel_web
from wheelgrown.base.words import is_integer, is_naming
from wheelgrown.errors import InvalidGrowth, InvalidNumber, InvalidOperation, InvalidStep
from wheelgrown.grow.steps import is_step, made_behind, renamed_step


def _webs_behind(web, steps):
    """The web and those behind the steps, as a tuple, as far as the steps can be done one behind the other."""
    webs = [web]
    for step in steps:
        if not is_step(webs[-1], step):
            return tuple(webs)
        webs.append(made_behind(webs[-1], step))
    return tuple(webs)


def _webs_of(wheel, steps):
    """The webs of a growth, from that of the wheel on, or () if there is no such growth."""
    if not is_wheel(wheel) or not isinstance(steps, tuple):
        return ()
    webs = _webs_behind(wheel_web(wheel), steps)
    return webs if len(webs) == len(steps) + 1 else ()


class Growth:
    """A wheel, and steps that can be done one behind the other. A growth never changes."""

    def __init__(self, wheel, steps):
        webs = _webs_of(wheel, steps)
        if webs == ():
            raise InvalidGrowth("no growth has this wheel and these steps")
        self._wheel = wheel
        self._steps = steps
        self._webs = webs

    @property
    def wheel(self):
        """The wheel with which the growth begins."""
        return self._wheel

    @property
    def steps(self):
        """The tuple of the steps."""
        return self._steps

    @property
    def web(self):
        """The web to which the growth leads."""
        return self._webs[-1]

    @property
    def spokes(self):
        """The number of the spokes of the wheel."""
        return len(self._wheel[1])

    def web_at(self, count):
        """The web behind so many steps."""
        self._check_count(count)
        return self._webs[count]

    def __call__(self, count):
        return self.web_at(count)

    def cut(self, count):
        """The growth of just so many steps."""
        self._check_count(count)
        return Growth(self._wheel, self._steps[:count])

    def _check_count(self, count):
        if not is_integer(count) or not 0 <= count <= len(self._steps):
            raise InvalidNumber(count)

    def grown(self, *steps):
        """The growth with further steps."""
        if len(_webs_behind(self.web, steps)) <= len(steps):
            raise InvalidStep("one of the steps cannot be done")
        return Growth(self._wheel, self._steps + steps)

    def renamed(self, names):
        """The growth with other names, by a dict from just the places of its last web to different names."""
        if not is_naming(self.web.places, names):
            raise InvalidOperation("new names are told by a dict from just the places to different names")
        hub, ring = self._wheel
        wheel = (names[hub], plain_ring(tuple([names[place] for place in ring])))
        return Growth(wheel, tuple([renamed_step(step, names) for step in self._steps]))

    def swapped(self, index):
        """The growth with the steps at this index and behind it exchanged, None if it leads elsewhere or nowhere."""
        if not is_integer(index) or not 0 <= index < len(self._steps) - 1:
            raise InvalidNumber(index)
        steps = self._steps[:index] + (self._steps[index + 1], self._steps[index]) + self._steps[index + 2:]
        webs = _webs_of(self._wheel, steps)
        # Each step has just one web ahead of it; so the last webs are equal only if those behind both steps are.
        if webs == () or webs[-1] != self.web:
            return None
        return Growth(self._wheel, steps)

    def __contains__(self, value):
        return value in self._steps

    def __len__(self):
        return len(self._steps)

    def __iter__(self):
        return iter(self._webs)

    def __eq__(self, other):
        return isinstance(other, Growth) and self._wheel == other._wheel and self._steps == other._steps

    def __str__(self):
        return f"growth of {len(self._steps)} steps from {len(self._wheel[1])} spokes"


def is_growth(web, value):
    """Whether the value is a growth of the web, as a pair."""
    check_web(web)
    if not isinstance(value, tuple) or len(value) != 2:
        return False
    wheel, steps = value
    webs = _webs_of(wheel, steps)
    return webs != () and webs[-1] == web
