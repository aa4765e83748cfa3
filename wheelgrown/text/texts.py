"""Texts of webs, steps, growths and papers, and how they are read."""

from wheelgrown.base.webs import Web, check_web
from wheelgrown.base.wheels import is_wheel
from wheelgrown.base.words import are_ascending_names, is_integer
from wheelgrown.errors import InvalidGrowth, InvalidOperation, InvalidStep, ParseError
from wheelgrown.grow.steps import is_like_step
from wheelgrown.part.partings import MAX_PARTING, SMALL

NO_PLACE = "-"


def write_web(web):
    """The text of a web: the row of its lines."""
    check_web(web)
    return "\n".join(web.lines)


def _lines_of(text):
    """The list of the lines of a text."""
    if not isinstance(text, str):
        raise ParseError(None)
    return text.split("\n")


def read_web(text):
    """The web of a text."""
    lines = _lines_of(text)
    return Web.from_lines(*lines)


def _step_line(step):
    """The text of what has the form of a step."""
    if step[0] == "tie":
        return f"tie {step[1]} {step[2]}"
    _, place, new, moved = step
    return f"split {place} {new} with " + " ".join(moved)


def write_step(step):
    """The text of a step."""
    if not is_like_step(step):
        raise InvalidStep("this has not the form of a step")
    return _step_line(step)


def step_told(text):
    """The step of a text, None if the value is no text of one."""
    words = tuple(text.split(" ")) if isinstance(text, str) else ()
    if words[:1] == ("split",) and words[3:4] == ("with",):
        words = (*words[:3], words[4:])
    return words if is_like_step(words) else None


def read_step(text):
    """The step of a text."""
    step = step_told(text)
    if step is None:
        raise ParseError(None)
    return step


def _is_like_growth(value):
    """Whether the value is a pair of a wheel and of a tuple of what has the form of a step."""
    if not isinstance(value, tuple) or len(value) != 2:
        return False
    wheel, steps = value
    return is_wheel(wheel) and isinstance(steps, tuple) and all([is_like_step(step) for step in steps])


def _growth_lines(wheel, steps):
    """The list of the lines of what has the form of a growth."""
    hub, ring = wheel
    return [f"wheel {hub} of " + " ".join(ring)] + [_step_line(step) for step in steps]


def write_growth(growth):
    """The text of a growth: a line for its wheel, and one for each step."""
    if not _is_like_growth(growth):
        raise InvalidGrowth("a growth is a pair of a wheel and of a tuple of steps")
    wheel, steps = growth
    return "\n".join(_growth_lines(wheel, steps))


def _wheel_told(line):
    """The wheel of a line, None if it is none of one."""
    words = tuple(line.split(" "))
    wheel = (words[1], words[3:]) if len(words) > 3 else None
    return wheel if words[0] == "wheel" and words[2:3] == ("of",) and is_wheel(wheel) else None


def _growth_told(lines, first):
    """The wheel and the steps of the lines from an index on."""
    wheel = _wheel_told(lines[first]) if first < len(lines) else None
    if wheel is None:
        raise ParseError(first)
    steps = [step_told(line) for line in lines[first + 1:]]
    if None in steps:
        raise ParseError(first + 1 + steps.index(None))
    return wheel, tuple(steps)


def read_growth(text):
    """The growth of a text, as a pair."""
    return _growth_told(_lines_of(text), 0)


def _is_like_paper(value):
    """Whether the value has the form of a paper, of whatever web."""
    if not isinstance(value, tuple) or value == ():
        return False
    if value[0] == "grown":
        return _is_like_growth(value[1:])
    if len(value) != 2:
        return False
    if value[0] == "parted":
        return are_ascending_names(value[1]) and len(value[1]) <= MAX_PARTING
    return value[0] == "small" and is_integer(value[1]) and 1 <= value[1] < SMALL


def paper_lines(paper):
    """The list of the lines of what has the form of a paper."""
    if paper[0] == "grown":
        return ["grown"] + _growth_lines(paper[1], paper[2])
    if paper[0] == "small":
        return [f"small {paper[1]}"]
    return ["parted " + (NO_PLACE if paper[1] == () else " ".join(paper[1]))]


def write_paper(paper):
    """The text of a paper."""
    if not _is_like_paper(paper):
        raise InvalidOperation("this has not the form of a paper")
    return "\n".join(paper_lines(paper))


def _short_paper_told(line):
    """The paper of one line, None if it is none of one."""
    words = tuple(line.split(" "))
    if words == ("parted", NO_PLACE):
        return ("parted", ())
    if words[0] == "parted" and len(words) > 1 and _is_like_paper(("parted", words[1:])):
        return ("parted", words[1:])
    for count in range(1, SMALL):
        if words == ("small", str(count)):
            return ("small", count)
    return None


def read_paper(text):
    """The paper of a text."""
    lines = _lines_of(text)
    if lines[0] == "grown":
        wheel, steps = _growth_told(lines, 1)
        return ("grown", wheel, steps)
    paper = _short_paper_told(lines[0])
    if paper is None:
        raise ParseError(0)
    if len(lines) > 1:
        raise ParseError(1)
    return paper
