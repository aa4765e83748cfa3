"""Promise [18.1] and the first half of stage 18: texts of webs, steps, growths and papers."""

import random
import re
import unittest
from itertools import combinations

from tests.force import random_webs
from tests.samples import APART, BOW, FIVE, FOUR, GLUED, LETTERS, NOT_WEBS, ODD, ODD_TUPLES, PAIR, PRISM, SINGLE, SOME_WEBS, WHEEL
from tests.samples import bent, check_error, nested
from tests.test_growths import DRAWN, GROWTH, LONG, NO_WHEELS, STEPS, WHEEL_OF_FOUR, is_in
from tests.test_spare import GREAT
from wheelgrown.base.webs import Web
from wheelgrown.errors import InvalidGrowth, InvalidOperation, InvalidStep, InvalidWeb, ParseError
from wheelgrown.grow.papers import paper
from wheelgrown.grow.steps import last_steps, split_steps, tie_steps
from wheelgrown.text.texts import read_growth, read_paper, read_step, read_web, write_growth, write_paper, write_step, write_web

NAME = "[a-z]{1,8}"
SPLIT = ("split", "h", "k", ("a", "b"))
STEP_VALUES = (SPLIT, ("tie", "a", "b"), ("tie", "abcdefgh", "z"), ("split", "with", "split", ("a", "of", "tie")),
    ("split", "z", "a", LETTERS[1:15]),
               ("tie", "split", "with"), ("split", "of", "with", ("split", "wheel"))) + last_steps(PRISM) + tuple(split_steps(WHEEL, "new"))
GROWTH_VALUES = ((WHEEL_OF_FOUR, ()), (WHEEL_OF_FOUR, STEPS), (WHEEL_OF_FOUR, STEPS[::-1]),
    (("of", ("a", "tie", "wheel")), (("tie", "x", "y"), ("tie", "x", "y"))),
                 (("p", LETTERS[:15]), (SPLIT,) * 40)) + tuple((growth.wheel, growth.steps) for growth in DRAWN + (GROWTH, LONG))
PAPER_VALUES = tuple(("small", count) for count in (1, 2, 3)) + (
    ("parted", ()), ("parted", ("a",)), ("parted", ("a", "b")), ("parted", ("parted", "small")), ("parted", ("grown",))) + tuple(
    ("grown", *value) for value in GROWTH_VALUES)
NO_TEXTS = tuple(value for value in ODD + ODD_TUPLES if not isinstance(value, str)) + (WHEEL, GROWTH, b"tie a b", ("tie a b",), nested(8))


def are_ascending(words):
    return list(words) == sorted(set(words))


def step_by_force(text):
    """The step of a text by its words, None if it is none."""
    if re.fullmatch(f"tie {NAME} {NAME}", text):
        a, b = text.split()[1:]
        return ("tie", a, b) if a < b else None
    if re.fullmatch(f"split {NAME} {NAME} with( {NAME}){{2,}}", text):
        words = text.split()
        names = words[1:3] + words[4:]
        if len(set(names)) == len(names) and are_ascending(words[4:]):
            return ("split", words[1], words[2], tuple(words[4:]))
    return None


def wheel_by_force(text):
    if re.fullmatch(f"wheel {NAME} of( {NAME}){{3,15}}", text):
        words = text.split()
        ring = tuple(words[3:])
        if len({words[1], *ring}) == len(ring) + 1 and ring[0] == min(ring) and ring[1] < ring[-1]:
            return (words[1], ring)
    return None


def growth_by_force(lines, first):
    """The growth of the lines from an index on, or the index of the first line that is none."""
    if first >= len(lines) or wheel_by_force(lines[first]) is None:
        return first
    for index in range(first + 1, len(lines)):
        if step_by_force(lines[index]) is None:
            return index
    return (wheel_by_force(lines[first]), tuple(map(step_by_force, lines[first + 1:])))


def paper_by_force(lines):
    """The paper of the lines, or the index of the first line that is none."""
    if lines[0] == "grown":
        told = growth_by_force(lines, 1)
        return told if isinstance(told, int) else ("grown", *told)
    if re.fullmatch("small [123]", lines[0]):
        told = ("small", int(lines[0][-1]))
    elif re.fullmatch(f"parted (-|{NAME}( {NAME})?)", lines[0]):
        words = lines[0].split()[1:]
        told = ("parted", () if words == ["-"] else tuple(words))
        if not are_ascending(words):
            return 0
    else:
        return 0
    return told if len(lines) == 1 else 1


def web_by_force(text):
    """The lines of the web of a text, or the index of the first line that is none, or None if there is no such web."""
    places, ties, told = set(), set(), []
    for index, line in enumerate(text.split("\n")):
        if re.fullmatch(f"place {NAME}", line):
            item = line.split()[1]
        elif re.fullmatch(f"tie {NAME} {NAME}", line) and len(set(line.split()[1:])) == 2:
            item = tuple(sorted(line.split()[1:]))
            ties.add(item)
        else:
            return index
        if item in told:
            return index
        told.append(item)
        places |= {item} if isinstance(item, str) else set(item)
    if len(places) > 16 or len(ties) > 60:
        return None
    alone = sorted(places - {place for tie in ties for place in tie})
    return tuple([f"place {place}" for place in alone] + [f"tie {a} {b}" for a, b in sorted(ties)])


def bent_texts(text):
    """The texts with a sign too much, or too little, or another one, and with lines twice, blank or missing."""
    for index in range(len(text) + 1):
        yield text[:index] + text[index + 1:]
        for sign in " \na-1Az":
            yield text[:index] + sign + text[index:]
            yield text[:index] + sign + text[index + 1:]
    lines = text.split("\n")
    for index in range(len(lines) + 1):
        for line in ("", " ", "tie a b", "tie b a", "place a", "tie d e", "small 1", "grown", lines[index - 1]):
            yield "\n".join(lines[:index] + [line] + lines[index:])
            yield "\n".join(lines[:index] + [line] + lines[index + 1:])
        yield "\n".join(lines[:index] + lines[index + 1:])
        yield "\n".join(lines[:index][::-1] + lines[index:])


class ExamplesTest(unittest.TestCase):
    def test_webs_steps_and_papers(self):
        self.assertEqual(
            [read_web("tie b a\nplace c").lines, write_step(("split", "h", "k", ("a", "b"))), read_step("tie a b"),
            write_paper(("parted", ()))],
            [("place c", "tie a b"), "split h k with a b", ("tie", "a", "b"), "parted -"])

    def test_growths_and_papers(self):
        self.assertEqual(
            [write_growth((("h", ("a", "b", "c", "d")), (("tie", "a", "c"),))), read_paper("grown\nwheel h of a b c d"),
            read_paper("small 2")],
            ["wheel h of a b c d\ntie a c", ("grown", ("h", ("a", "b", "c", "d")), ()), ("small", 2)])


class WebTest(unittest.TestCase):
    def test_written_and_read_again(self):
        texts = {}
        for web in SOME_WEBS + GREAT + tuple(random_webs(random.Random(81), 60, 1, 16)):
            text = write_web(web)
            self.assertEqual(text, "\n".join(web.lines))
            self.assertEqual(read_web(text), web)
            self.assertEqual(texts.setdefault(text, web), web)

    def test_texts_with_one_thing_bent(self):
        for web in (PAIR, APART, SINGLE, Web(("a", "b", "c"), (("a", "c"),))):
            for text in bent_texts(write_web(web)):
                right = web_by_force(text)
                if isinstance(right, int):
                    check_error(self, ParseError, read_web, text, number=right)
                else:
                    self.assertEqual(read_web(text).lines, right)

    def test_as_from_lines(self):
        for text, number in (("", 0), ("\n", 0), ("place a\n", 1), ("\nplace a", 0), ("place a\n\nplace b", 1), ("place a\nplace a", 1),
                ("tie a b\ntie b a", 1),
                             ("tie a b\nplace a\ntie  a c", 2), ("place a;place b", 0), ("tie a a", 0)):
            check_error(self, ParseError, read_web, text, number=number)
        self.assertEqual(read_web("tie a b\nplace a").lines, ("tie a b",))
        self.assertEqual(read_web("\n".join(f"place {name}" for name in LETTERS[:16])), Web(LETTERS[:16], ()))
        check_error(self, InvalidWeb, read_web, "\n".join(f"place {name}" for name in LETTERS[:17]))
        check_error(self, InvalidWeb, read_web, "\n".join(f"tie {a} {b}" for a, b in list(combinations(LETTERS[:12], 2))[:61]))
        check_error(self, ParseError, read_web, "\n".join([f"place {name}" for name in LETTERS[:17]] + [""]), number=17)

    def test_no_webs_and_no_texts(self):
        for web in NOT_WEBS:
            check_error(self, InvalidWeb, write_web, web)
        for text in NO_TEXTS:
            check_error(self, ParseError, read_web, text, number=None)


class StepTest(unittest.TestCase):
    def test_written_and_read_again(self):
        texts = {}
        for step in STEP_VALUES + tuple(step for growth in DRAWN for step in growth.steps) + tuple(tie_steps(PRISM)):
            text = write_step(step)
            self.assertEqual((read_step(text), step_by_force(text)), (step, step))
            self.assertEqual(texts.setdefault(text, step), step)
        self.assertEqual(write_step(STEP_VALUES[3]), "split with split with a of tie")

    def test_values_with_one_thing_bent(self):
        for step in (SPLIT, ("tie", "a", "b"), STEP_VALUES[6]):
            for value in bent(step):
                if is_like_step_by_force(value):
                    self.assertEqual(read_step(write_step(value)), value)
                else:
                    check_error(self, InvalidStep, write_step, value)

    def test_values_that_are_no_steps(self):
        for value in ODD + ODD_TUPLES + (
                WHEEL, (), ("tie", "b", "a"), ("tie", "a", "a"), ("tie", "a"), ("tie", "a", "b", "c"), ("split", "h", "h", ("a", "b")),
                ("split", "h", "k", ("a",)),
                ("split", "h", "k", ("b", "a")), ("split", "h", "k", ("h", "l")), ("split", "h", "a", ("a", "b")),
                ("split", "h", "k", ["a", "b"]), "tie a b"):
            check_error(self, InvalidStep, write_step, value)

    def test_texts_with_one_thing_bent(self):
        for step in (SPLIT, ("tie", "a", "b"), STEP_VALUES[3], STEP_VALUES[6]):
            for text in bent_texts(write_step(step)):
                right = step_by_force(text)
                if right is None:
                    check_error(self, ParseError, read_step, text, number=None)
                else:
                    self.assertEqual((read_step(text), write_step(right)), (right, text))

    def test_texts_that_are_none(self):
        for text in NO_TEXTS + ODD + (
                "", " ", "tie", "tie a", "tie b a", "tie a a", "tie a b c", "tie a  b", " tie a b", "tie a b ", "tie a b\n", "tie A b",
                "split h k", "split h k with",
                "split h k with a", "split h k with b a", "split h k with a a", "split h h with a b", "split h k with h l",
                "split h k  with a b", "split h k of a b",
                "split h k a b", "split h k with a b\ntie a b", "wheel h of a b c", "place a"):
            check_error(self, ParseError, read_step, text, number=None)


def is_like_step_by_force(value):
    """Whether the value has the form of a step: if it is right behind a text of its words."""
    try:
        words = [value[0], *value[1:3], "with", *value[3]] if value[0] == "split" and len(value) == 4 else list(value)
        return isinstance(value, tuple) and is_in(value, [step_by_force(" ".join(words))])
    except (TypeError, IndexError, KeyError, AttributeError):
        return False


class GrowthTest(unittest.TestCase):
    def test_written_and_read_again(self):
        texts = {}
        for value in GROWTH_VALUES:
            text = write_growth(value)
            self.assertEqual(read_growth(text), value)
            self.assertEqual(text.count("\n"), len(value[1]))
            self.assertEqual(texts.setdefault(text, value), value)
        self.assertEqual(write_growth((WHEEL_OF_FOUR, STEPS)), "wheel h of a b c d\nsplit h k with a b\ntie a c")

    def test_no_growths(self):
        for value in NOT_WEBS + ODD_TUPLES + NO_WHEELS + (
                GROWTH, (WHEEL_OF_FOUR,), (WHEEL_OF_FOUR, (), ()), [WHEEL_OF_FOUR, ()], (WHEEL_OF_FOUR, []), (WHEEL_OF_FOUR, None),
                (WHEEL_OF_FOUR, (None,)),
                (WHEEL_OF_FOUR, STEPS[0]), (WHEEL_OF_FOUR, (("tie", "b", "a"),)), ((), ())):
            check_error(self, InvalidGrowth, write_growth, value)
        for wheel in NO_WHEELS:
            check_error(self, InvalidGrowth, write_growth, (wheel, ()))
        # The steps need not be such as can be done.
        self.assertEqual(write_growth((WHEEL_OF_FOUR, (("tie", "a", "b"), ("tie", "y", "z")))), "wheel h of a b c d\ntie a b\ntie y z")

    def test_values_with_one_thing_bent(self):
        for value in bent((WHEEL_OF_FOUR, STEPS)):
            right = growth_by_words(value)
            if right is None:
                check_error(self, InvalidGrowth, write_growth, value)
            else:
                self.assertEqual(read_growth(write_growth(value)), value)

    def test_texts_with_one_thing_bent(self):
        for value in ((WHEEL_OF_FOUR, STEPS), (("b", ("a", "c", "d")), ())):
            for text in bent_texts(write_growth(value)):
                right = growth_by_force(text.split("\n"), 0)
                if isinstance(right, int):
                    check_error(self, ParseError, read_growth, text, number=right)
                else:
                    self.assertEqual((read_growth(text), write_growth(right)), (right, text))

    def test_the_first_line_that_is_none(self):
        for text, number in (("", 0), ("\n", 0), ("wheel h of a b", 0), ("wheel h of a c b", 0), ("wheel h of a b c\n", 1),
                ("wheel h of a b c\ntie b a\n", 1),
                             ("wheel h of a b c\ntie a b\nwheel h of a b c", 2), ("wheel h of a b c\ntie a b\n\ntie a c", 2),
                             ("tie a b", 0), ("grown\nwheel h of a b c", 0),
                             ("wheel a of a b c", 0), ("wheel h  of a b c", 0), ("wheel h of", 0), ("wheel", 0),
                             ("wheel q of " + " ".join(LETTERS[:16]), 0)):
            check_error(self, ParseError, read_growth, text, number=number)
        for text in NO_TEXTS:
            check_error(self, ParseError, read_growth, text, number=None)


def growth_by_words(value):
    """The value itself if it has the form of a growth, None if not."""
    if not isinstance(value, tuple) or len(value) != 2 or not isinstance(value[1], tuple):
        return None
    try:
        hub, ring = value[0]
        wheel = wheel_by_force(" ".join(["wheel", hub, "of", *ring]))
    except (TypeError, ValueError):
        return None
    return value if is_in(value[0], [wheel]) and all(is_like_step_by_force(step) for step in value[1]) else None


class PaperTest(unittest.TestCase):
    def test_written_and_read_again(self):
        texts = {}
        for value in PAPER_VALUES + tuple(paper(web) for web in SOME_WEBS):
            text = write_paper(value)
            self.assertEqual((read_paper(text), paper_by_force(text.split("\n"))), (value, value))
            self.assertEqual(texts.setdefault(text, value), value)
        self.assertEqual([write_paper(value) for value in PAPER_VALUES[:6]],
            ["small 1", "small 2", "small 3", "parted -", "parted a", "parted a b"])
        self.assertEqual(write_paper(PAPER_VALUES[9]), "grown\nwheel h of a b c d\nsplit h k with a b\ntie a c")

    def test_no_papers(self):
        for value in NOT_WEBS + ODD_TUPLES + (
                GROWTH, ("small", 0), ("small", 4), ("small", True), ("small", "1"), ("small",), ("small", 1, 1), ("parted",),
                ("parted", None), ("parted", ("b", "a")),
                ("parted", ("a", "a")), ("parted", ("a", "b", "c")), ("parted", ["a"]), ("parted", "a"), ("parted", (1,)),
                ("parted", (), ()), ("grown",), ("grown", WHEEL_OF_FOUR),
                ("grown", (WHEEL_OF_FOUR, ())), ("grown", WHEEL_OF_FOUR, [], ()), ("grown", WHEEL_OF_FOUR, []), ("Small", 1), ["small", 1],
                "small 1", (None, 1)):
            check_error(self, InvalidOperation, write_paper, value)

    def test_values_with_one_thing_bent(self):
        for right in (("small", 1), ("parted", ("a", "b")), ("parted", ())):
            for value in bent(right):
                if is_in(value, PAPER_VALUES + (("parted", ("b",)), ("parted", ("z",)), ("parted", ("a", "z")))):
                    self.assertEqual(read_paper(write_paper(value)), value)
                else:
                    check_error(self, InvalidOperation, write_paper, value)
        for value in bent(("grown", WHEEL_OF_FOUR, STEPS)):
            if isinstance(value, tuple) and value[:1] == ("grown",) and growth_by_words(value[1:]) is not None:
                self.assertEqual(read_paper(write_paper(value)), value)
            else:
                check_error(self, InvalidOperation, write_paper, value)

    def test_texts_with_one_thing_bent(self):
        for value in (("small", 2), ("parted", ("a", "b")), ("parted", ("a",)), ("parted", ()), ("grown", WHEEL_OF_FOUR, STEPS),
                ("grown", ("b", ("a", "c", "d")), ())):
            for text in bent_texts(write_paper(value)):
                right = paper_by_force(text.split("\n"))
                if isinstance(right, int):
                    check_error(self, ParseError, read_paper, text, number=right)
                else:
                    self.assertEqual((read_paper(text), write_paper(right)), (right, text))

    def test_the_first_line_that_is_none(self):
        for text, number in (("", 0), ("small 0", 0), ("small 4", 0), ("small 01", 0), ("small", 0), ("small 1\n", 1),
                ("small 1\nsmall 1", 1), ("small 1\nx\ny", 1), ("x\ny", 0),
                             ("parted", 0), ("parted ", 0), ("parted b a", 0), ("parted a a", 0), ("parted a b c", 0), ("parted - a", 0),
                             ("parted -\n", 1), ("parted a b\ngrown", 1),
                             ("grown", 1), ("grown\n", 1), ("grown\nsmall 1", 1), ("grown\nwheel h of a b c\n", 2),
                             ("grown\nwheel h of a b c\ntie a b\ntie b a", 3), ("grown ", 0),
                             (" grown", 0), ("wheel h of a b c", 0), ("small 1 ", 0), ("small  1", 0), ("small \n1", 0)):
            check_error(self, ParseError, read_paper, text, number=number)
        for text in NO_TEXTS:
            check_error(self, ParseError, read_paper, text, number=None)

    def test_papers_of_webs(self):
        for web in (WHEEL, PRISM, FIVE, GLUED, BOW, FOUR, SINGLE, APART) + GREAT[:1]:
            self.assertEqual(read_paper(write_paper(paper(web))), paper(web))


if __name__ == "__main__":
    unittest.main()
