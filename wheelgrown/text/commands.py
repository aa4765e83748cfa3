"""The commands of a shell, and the answers of a bench to them."""

from wheelgrown.base.wheels import is_wheel_web
from wheelgrown.base.words import MAX_FIGURES, is_name
from wheelgrown.count.growths import count_growths
from wheelgrown.count.webs import count_samenesses
from wheelgrown.draw.drawings import is_drawable
from wheelgrown.grow.papers import paper
from wheelgrown.grow.spare import joined_ties, struck_ties
from wheelgrown.part.partings import all_blocks, held_level
from wheelgrown.part.ways import count_ways, least_gate, three_ways
from wheelgrown.text.texts import NO_PLACE, paper_lines, step_told
from wheelgrown.tree.whole import count_kinds
from wheelgrown.within.models import four_of, peeling_of

NO_ITEMS = "nothing"
NO_ANSWER = "none"


def _items(items):
    """The answer of several items."""
    return NO_ITEMS if len(items) == 0 else "; ".join(items)


def _rows(rows):
    """The answer of several rows of names."""
    return _items([" ".join(row) for row in rows])


def _rows_if_any(rows):
    return NO_ANSWER if rows is None else _rows(rows)


def _yes_or_no(value):
    return "yes" if value else "no"


def _news(news):
    return NO_ITEMS if news == () else f"from {news[0]} to {news[1]}"


def pledge_line(pledge):
    """The text of a pledge."""
    return " ".join([str(word) for word in pledge])


def _draw(bench, line):
    return _news(bench.draw(line))


def _erase(bench, line):
    return _news(bench.erase(line))


def _grow(bench, step):
    return _news(bench.grow(step))


def _shrink(bench, step):
    return _news(bench.shrink(step))


def _join(bench, a, b):
    return _news(bench.join(a, b))


def _demand(bench, pledge):
    return _news(bench.demand(pledge))


def _waive(bench, pledge):
    return _news(bench.waive(pledge))


def _undo(bench):
    return _news(bench.undo())


def _redo(bench):
    return _news(bench.redo())


def _lines(bench):
    return _items(bench.web.lines)


def _pledges(bench):
    return _items([pledge_line(pledge) for pledge in bench.pledges])


def _blocks(bench):
    return _rows(all_blocks(bench.web))


def _lots(bench):
    return _rows(bench.web.lots)


def _level(bench):
    return str(held_level(bench.web))


def _paper(bench):
    return _items(paper_lines(paper(bench.web)))


def _ways(bench, a, b):
    return str(count_ways(bench.web, a, b))


def _three(bench, a, b):
    return _rows_if_any(three_ways(bench.web, a, b))


def _gate(bench, a, b):
    gate = least_gate(bench.web, a, b)
    return NO_PLACE if gate == () else " ".join(gate)


def _parts(bench):
    kinds = count_kinds(bench.web)
    return _items([f"{kind} {many}" for kind, many in kinds.items()])


def _struck(bench):
    return _rows(struck_ties(bench.web))


def _joined(bench):
    return _rows(joined_ties(bench.web))


def _four(bench):
    return _rows_if_any(four_of(bench.web))


def _peeling(bench):
    order = peeling_of(bench.web)
    return NO_ANSWER if order is None else " ".join(order)


def _drawable(bench):
    return _yes_or_no(is_drawable(bench.web))


def _wheel(bench):
    return _yes_or_no(is_wheel_web(bench.web))


def _growths(bench):
    return str(count_growths(bench.web))


def _samenesses(bench):
    return str(count_samenesses(bench.web))


# For each first word of a command what stands behind it, and the function that answers it.
ACTS = {
    "draw": ("line", _draw),
    "erase": ("line", _erase),
    "grow": ("step", _grow),
    "shrink": ("step", _shrink),
    "join": ("names", _join),
    "demand": ("pledge", _demand),
    "waive": ("pledge", _waive),
    "undo": ("", _undo),
    "redo": ("", _redo),
    "lines": ("", _lines),
    "pledges": ("", _pledges),
    "blocks": ("", _blocks),
    "lots": ("", _lots),
    "level": ("", _level),
    "paper": ("", _paper),
    "ways": ("names", _ways),
    "three": ("names", _three),
    "gate": ("names", _gate),
    "parts": ("", _parts),
    "struck": ("", _struck),
    "joined": ("", _joined),
    "four": ("", _four),
    "peeling": ("", _peeling),
    "drawable": ("", _drawable),
    "wheel": ("", _wheel),
    "growths": ("", _growths),
    "samenesses": ("", _samenesses),
}


def _is_figures(word):
    """Whether the word is an integer of at least 0, without leading zeros and of at most sixty figures."""
    if not 1 <= len(word) <= MAX_FIGURES or not all(["0" <= sign <= "9" for sign in word]):
        return False
    return word == "0" or word[0] != "0"


def _pledge_told(text):
    """What is demanded by the text of a pledge, None if it is none; whether there is such a pledge is not asked."""
    words = tuple(text.split(" "))
    if words in (("held",), ("loose",), ("drawable",)):
        return words
    if words[0] == "level" and len(words) == 2 and _is_figures(words[1]):
        return ("level", int(words[1]))
    if words[0] not in ("tied", "ways") or not all([is_name(word) for word in words[1:3]]):
        return None
    if words[0] == "tied":
        return words if len(words) == 3 else None
    return (*words[:3], int(words[3])) if len(words) == 4 and _is_figures(words[3]) else None


def _are_two_names(words):
    return len(words) == 2 and is_name(words[0]) and is_name(words[1])


def _passed(kind, text):
    """The tuple of what a command of this kind passes on, None if the text is none of the kind."""
    if kind == "line":
        return (text,)
    if kind == "names":
        words = tuple(text.split(" "))
        return words if _are_two_names(words) else None
    told = step_told(text) if kind == "step" else _pledge_told(text)
    return None if told is None else (told,)


def command_told(line):
    """The function that answers a command, and the tuple of what it is passed behind a bench; None for all else."""
    if not isinstance(line, str):
        return None
    word, blank, text = line.partition(" ")
    if word not in ACTS:
        return None
    kind, act = ACTS[word]
    if kind == "":
        return (act, ()) if blank == "" else None
    passed = None if blank == "" else _passed(kind, text)
    return None if passed is None else (act, passed)
