"""Promise [18.2] and the second half of stage 18: a shell."""

import random
import re
import unittest
from itertools import combinations

from tests.samples import APART, BOW, FIVE, FOUR, GLUED, LETTERS, NOT_WEBS, ODD, ODD_TUPLES, PAIR, PRISM, SINGLE, SOME_WEBS, WHEEL
from tests.samples import check_error, nested
from tests.test_bench import history_of
from tests.test_parts import CHAIN, KITE_WEB
from tests.test_spare import GREAT
from tests.test_texts import NO_TEXTS
from wheelgrown import errors
from wheelgrown.base.webs import Web, full_web, ring_web
from wheelgrown.base.wheels import is_wheel_web
from wheelgrown.count.growths import count_growths
from wheelgrown.count.webs import count_samenesses
from wheelgrown.draw.drawings import is_drawable
from wheelgrown.errors import InvalidWeb, ParseError
from wheelgrown.grow.papers import is_paper
from wheelgrown.grow.spare import joined_ties, struck_ties
from wheelgrown.part.partings import all_blocks, held_level
from wheelgrown.part.ways import count_ways, is_least_gate, is_ways
from wheelgrown.text.shell import Shell
from wheelgrown.text.texts import read_paper, read_step, write_step, write_web
from wheelgrown.tree.whole import count_kinds
from wheelgrown.use.bench import Bench
from wheelgrown.within.models import is_four, is_peeling, peeling_of

ALONE = (
    "undo", "redo", "lines", "pledges", "blocks", "lots", "level", "paper", "parts", "struck", "joined", "four", "peeling", "drawable",
    "wheel", "growths", "samenesses")
WITH_NAMES = ("join", "ways", "three", "gate")
ERRORS = {
    "InvalidPlace": "place", "InvalidTie": "tie", "InvalidWeb": "web", "InvalidStep": "step", "InvalidOperation": "operation",
    "UnknownName": "unknown", "ParseError": "line", "NothingToUndo": "undo"}
ANSWERS_OF_ERRORS = re.compile(r"what|place|tie|web|step|operation|unknown|line|undo|many \d+|refused .*")
# What does not stand behind the first words of commands of each kind.
NO_NAMES = ("", " ", " a", " a ", " a b ", "  a b", " a  b", " a b c", " A b", " a b\n", " a,b", " abcdefghi b", " 1 2")
NO_STEPS = (
    "", " ", " tie", " tie a", " tie b a", " tie a a", " tie a b ", "  tie a b", " tie a b\n", " split h k with a", " split h k with b a",
    " split h h with a b", " place a", " wheel h of a b c")
NO_PLEDGES = (
    "", " ", " held ", "  held", " Held", " held\n", " held 1", " held a b", " loose 1", " drawable x", " wheel", " nothing", " ('held',)",
    " level", " level ", " level 01", " level 00", " level -1", " level +1", " level 1 ", " level 1.0", " level a", " level " + "9" * 61,
    " level a b 1", " wheel a b 1", " tied", " tied a", " tied a b c", " tied A b", " tied a B", " tied 1 b", " tied a  b", " ways a 1",
    " ways a b", " ways a b -1", " ways a b 01", " ways a b c", " ways a b 1 1", " ways a b 1\n", " ways a B 1", " ways A b 1",
    " ways a b " + "1" * 61)
NO_COMMANDS = (
    "", " ", "draw", "erase", "Level", "LEVEL", "what", "quit", "undo 2", "redo many=1", "level;lots", "drawtie a b", "; lots", "tie a b",
    "place a", "held") + tuple(
    word + end for words, ends in (
        (ALONE, (" ", " a", "\n", " 1", "s")), (WITH_NAMES, NO_NAMES), (("grow", "shrink"), NO_STEPS), (("demand", "waive"), NO_PLEDGES))
    for word in words for end in ends) + tuple(start + word for word in ALONE for start in (" ", "\n", "x"))


def items_of(answer):
    return [] if answer == "nothing" else answer.split("; ")


def rows_of(answer):
    return tuple(tuple(item.split(" ")) for item in items_of(answer))


def told(rows):
    """The answer that tells these rows of names."""
    return "; ".join(" ".join(row) for row in rows) or "nothing"


def pledge_words(pledge):
    return " ".join(str(word) for word in pledge)


def made_shell(web):
    return Shell(write_web(web))


class ExamplesTest(unittest.TestCase):
    def test_prism(self):
        shell = Shell(write_web(PRISM))
        self.assertEqual(
            [shell("level"), shell("ways a e"), shell("wheel"), shell("demand held"), shell("shrink split a d with e f"), shell("wheel"),
            shell("erase tie a b"),
             shell("struck")],
            ["3", "3", "no", "nothing", "nothing", "yes", "refused held", "nothing"])
        self.assertEqual(
            [shell("undo"), shell("lots"), shell("blocks"), shell("three a e"), shell("peeling"), shell("growths"), shell("undo"),
            shell("undo"), shell("join a a"),
             len(shell)],
            ["nothing", "a b c d e f", "a b c d e f", "a b e; a c f e; a d e", "none", "6", "nothing", "undo", "tie", 14])


class NewShellTest(unittest.TestCase):
    def test_texts(self):
        for web in SOME_WEBS:
            shell = made_shell(web)
            self.assertEqual((shell.bench(), len(shell)), (Bench(web), 0))
        self.assertEqual(Shell("tie b a\nplace c").bench().web.lines, ("place c", "tie a b"))

    def test_errors_as_of_read_web(self):
        for text in NO_TEXTS + NOT_WEBS:
            if not isinstance(text, str):
                check_error(self, ParseError, Shell, text, number=None)
        for text, number in (("", 0), ("tie a b\n", 1), ("place a\nplace a", 1), ("tie a  b", 0)):
            check_error(self, ParseError, Shell, text, number=number)
        check_error(self, InvalidWeb, Shell, "\n".join(f"place {name}" for name in LETTERS[:17]))

    def test_not_iterated_over(self):
        with self.assertRaises(TypeError):
            iter(made_shell(WHEEL))
        with self.assertRaises(TypeError):
            list(made_shell(WHEEL))


class LookingTest(unittest.TestCase):
    """The commands that change nothing, each against the functions of the other headings."""

    WEBS = (WHEEL, PRISM, FIVE, GLUED, BOW, FOUR, SINGLE, PAIR, APART, CHAIN, KITE_WEB, full_web(("a", "b", "c")), ring_web(LETTERS[:6]),
        Web(("a", "b", "c"), (("a", "c"),)),
            GREAT[0], PRISM.with_place("z"))

    def test_lines_blocks_and_lots(self):
        for web in self.WEBS:
            shell = made_shell(web)
            self.assertEqual(shell("lines"), "; ".join(web.lines))
            self.assertEqual(shell("blocks"), told(all_blocks(web)))
            self.assertEqual(shell("lots"), told(web.lots))
            self.assertEqual((shell("level"), shell("wheel")), (str(held_level(web)), "yes" if is_wheel_web(web) else "no"))
            self.assertEqual(shell("parts"), "; ".join(f"{kind} {many}" for kind, many in sorted(count_kinds(web).items())))
            self.assertEqual(len(shell), 6)

    def test_papers(self):
        for web in self.WEBS:
            answer = made_shell(web)("paper")
            self.assertTrue(is_paper(web, read_paper("\n".join(answer.split("; ")))))
        self.assertEqual([made_shell(web)("paper") for web in (SINGLE, GLUED, BOW, PRISM.with_place("z"), WHEEL)],
                         ["small 1", "parted a b", "parted c", "parted -", "grown; wheel h of a b c d"])

    def test_ways(self):
        for web in self.WEBS:
            shell = made_shell(web)
            for a, b in list(combinations(web.places, 2))[:9]:
                for one, other in ((a, b), (b, a)):
                    self.assertEqual(shell(f"ways {one} {other}"), str(count_ways(web, one, other)))
                    three = shell(f"three {one} {other}")
                    self.assertIs(three == "none", count_ways(web, one, other) < 3)
                    if three != "none":
                        self.assertTrue(is_ways(web, one, other, rows_of(three)) and len(rows_of(three)) == 3)
                    gate = shell(f"gate {one} {other}")
                    self.assertTrue(is_least_gate(web, one, other, () if gate == "-" else tuple(gate.split(" "))))
            for command in ("ways", "three", "gate"):
                self.assertEqual([shell(f"{command} a a"), shell(f"{command} a zz"), shell(f"{command} zz zz")],
                    ["operation", "unknown", "unknown"])
        self.assertEqual([made_shell(PAIR)("gate a b"), made_shell(GLUED)("gate c f"), made_shell(APART)("ways a b"),
            made_shell(APART)("three a b")], ["-", "a b", "0", "none"])

    def test_ties_that_can_be_spared(self):
        for web in self.WEBS:
            shell = made_shell(web)
            held = held_level(web) == 3 and len(web) > 3
            self.assertEqual(shell("struck"), told(struck_ties(web)) if held else "operation")
            self.assertEqual(shell("joined"), told(joined_ties(web)) if held else "operation")
            self.assertEqual(len(shell), 2 * held)
        self.assertEqual([made_shell(WHEEL)("struck"), made_shell(WHEEL)("joined"), made_shell(FOUR)("joined")],
            ["nothing", "a b; a d; b c; c d", "nothing"])

    def test_fours_and_peelings(self):
        for web in self.WEBS:
            shell = made_shell(web)
            four, order = shell("four"), shell("peeling")
            self.assertIs(four == "none", order != "none")
            self.assertTrue(is_four(web, rows_of(four)) if order == "none" else is_peeling(web, tuple(order.split(" "))))
            self.assertEqual(len(shell), 2)
        self.assertEqual([made_shell(FOUR)("four"), made_shell(SINGLE)("peeling"), made_shell(PAIR)("peeling")],
            ["a; b; c; d", "a", " ".join(peeling_of(PAIR))])

    def test_drawable(self):
        for web in self.WEBS:
            self.assertEqual(made_shell(web)("drawable"), ("yes" if is_drawable(web) else "no") if web.hangs else "operation")

    def test_numbers(self):
        for web in self.WEBS[:-2]:
            shell = made_shell(web)
            self.assertEqual(shell("growths"), str(count_growths(web)))
            self.assertEqual(shell("samenesses"), str(count_samenesses(web)) if len(web) <= 7 else "many 7")
        self.assertEqual(made_shell(GREAT[0])("growths"), "many 500")

    def test_nothing_is_changed(self):
        for web in self.WEBS[:8]:
            shell = made_shell(web)
            for command in ALONE[2:] + ("ways a b", "three a b", "gate a b", "what", "join a q", "draw q", "erase place q"):
                shell(command)
            self.assertEqual(history_of(shell.bench()), history_of(Bench(web)))


class ChangingTest(unittest.TestCase):
    def test_news(self):
        shell = made_shell(WHEEL)
        self.assertEqual(
            [shell("erase tie b a"), shell("erase place h"), shell("draw tie h q"), shell("undo"), shell("undo"), shell("redo"),
            shell("redo"), shell("redo"), shell("lines")],
            ["from 3 to 2", "from 2 to 1", "from 1 to 0", "from 0 to 1", "from 1 to 2", "from 2 to 1", "from 1 to 0", "undo",
            "tie a d; tie b c; tie c d; tie h q"])
        self.assertEqual(len(shell), 8)

    def test_steps(self):
        shell = made_shell(WHEEL)
        self.assertEqual(
            [shell("grow split h k with a b"), shell("grow tie a c"), shell("shrink tie a c"), shell("shrink split h k with a b"),
            shell("grow tie a b"), shell("shrink tie a c"),
             shell("join h a"), shell("join a z"), shell("join b d")],
            ["nothing", "nothing", "nothing", "nothing", "step", "step", "from 3 to 2", "unknown", "tie"])
        self.assertEqual((shell("lines"), len(shell)), ("tie b c; tie b h; tie c d; tie c h; tie d h", 6))

    def test_pledges(self):
        shell = made_shell(WHEEL)
        for pledge in ("held", "drawable", "level 2", "tied a b", "ways a c 3", "ways a b 0"):
            self.assertEqual((shell("waive " + pledge), shell("demand " + pledge), shell("demand " + pledge)),
                ("operation", "nothing", "operation"))
        self.assertEqual(shell("pledges"), "held; drawable; level 2; tied a b; ways a c 3; ways a b 0")
        self.assertEqual([shell("demand loose"), shell("demand ways a c 4"), shell("demand tied a c"),
            shell("demand ways a c " + "9" * 60)],
                         ["refused loose", "refused ways a c 4", "refused tied a c", "refused ways a c " + "9" * 60])
        # These have the text of a pledge, but are none.
        for text in ("level 0", "level 4", "level " + "9" * 60, "tied b a", "tied a a", "ways b a 1", "ways a a 0"):
            self.assertEqual((shell("demand " + text), shell("waive " + text)), ("operation", "operation"))
        self.assertEqual([shell("erase tie h a"), shell("waive held"), shell("erase tie a h"), shell("waive ways a c 3"),
            shell("erase tie a h"), shell("pledges")],
                         ["refused held", "nothing", "refused ways a c 3", "nothing", "from 3 to 2",
                         "drawable; level 2; tied a b; ways a b 0"])
        self.assertEqual(made_shell(WHEEL)("pledges"), "nothing")

    def test_answers_of_errors(self):
        shell = made_shell(WHEEL)
        self.assertEqual(
            [shell("draw place a"), shell("draw tie a b"), shell("draw place"), shell("draw "), shell("draw  tie a c"),
            shell("erase tie a c"), shell("erase place q"),
             shell("erase tie"), shell("grow tie a b"), shell("waive held"), shell("undo"), shell("redo"), shell("join a c"),
             shell("join a q")],
            ["place", "tie", "line", "line", "line", "tie", "unknown", "line", "step", "operation", "undo", "undo", "tie", "unknown"])
        self.assertEqual(made_shell(SINGLE)("erase place a"), "web")
        great = made_shell(ring_web(LETTERS[:16]))
        self.assertEqual([great("draw place q"), great("draw tie a z"), great("samenesses")], ["many 16", "many 16", "many 7"])
        full = made_shell(Web(LETTERS[:12], tuple(combinations(LETTERS[:12], 2))[:60]))
        self.assertEqual([full("draw tie k l"), full("growths"), len(full)], ["many 60", "many 500", 0])
        shell = made_shell(full_web(LETTERS[:5]))
        answers = [shell(f"demand ways {a} {b} {many}") for many in (0, 1) for a, b in combinations(LETTERS[:5], 2)]
        self.assertEqual((answers, len(shell)), (["nothing"] * 10 + ["many 10"] * 10, 10))
        self.assertEqual(len(great) + len(made_shell(WHEEL)), 0)

    def test_twins(self):
        shell = made_shell(WHEEL)
        shell("demand level 1")
        bench = shell.bench()
        bench.erase("tie a b")
        self.assertEqual((shell("level"), bench.level), ("3", 2))
        shell("erase place h")
        self.assertEqual((bench.web, shell.bench().web), (WHEEL.without_tie("a", "b"), WHEEL - ("h",)))
        self.assertEqual(history_of(shell.bench()), history_of(shell.bench()))
        self.assertIsNot(shell.bench(), shell.bench())


class OtherValuesTest(unittest.TestCase):
    def test_texts_that_are_no_commands(self):
        shell = made_shell(WHEEL)
        for line in NO_COMMANDS:
            self.assertEqual((shell(line), shell.answer(line)), ("what", "what"), repr(line))
        self.assertEqual((len(shell), history_of(shell.bench())), (0, history_of(Bench(WHEEL))))

    def test_values_of_all_kinds(self):
        shell = made_shell(WHEEL)
        for value in ODD + ODD_TUPLES + NOT_WEBS + (WHEEL, shell, shell.bench(), ("level",), ["level"], b"level", nested(8), 10 ** 99):
            self.assertEqual((shell(value), shell.answer(value)), ("what", "what"))
        self.assertEqual(len(shell), 0)

    def test_any_text_behind_draw_and_erase(self):
        shell = made_shell(WHEEL)
        for text in ("", " ", "x", "place A", "tie a b c", "tie a a", "tie  a q", "tie a q ", "a" * 3990, "; lots", "place a; place b"):
            self.assertEqual((shell("draw " + text), shell("erase " + text)), ("line", "line"), text)


class AgainstBenchTest(unittest.TestCase):
    """A shell beside a bench, command by command."""

    def drawn_command(self, source, web):
        a, b = (source.choice(web.places + ("x", "y")) for _ in "ab")
        places = sorted({*web.places, "x", "y"})
        moved = " ".join(sorted(source.sample(places, 2)))
        return source.choice((
            f"draw tie {a} {b}", f"draw place {a}", f"erase tie {a} {b}", f"erase place {a}", f"join {a} {b}",
            f"grow tie {min(a, b)} {max(a, b)}", f"shrink tie {min(a, b)} {max(a, b)}",
            f"grow split {a} {b} with {moved}", f"shrink split {a} {b} with {moved}", "undo", "undo", "redo", "redo", "demand held",
            "demand level 2", "waive level 2", "demand loose",
            "waive held", "waive loose", f"demand tied {a} {b}", f"waive tied {a} {b}", f"demand ways {a} {b} 2", f"waive ways {a} {b} 2",
            "demand drawable", "waive drawable", "draw x"))

    def done(self, bench, command):
        """What the bench tells of a command, as an answer."""
        word, _, text = command.partition(" ")
        words = text.split(" ")
        if word in ("grow", "shrink"):
            try:
                passed = (read_step(text),)
            except ParseError:
                return "what"
        elif word in ("demand", "waive"):
            passed = (tuple(int(part) if part.isdigit() else part for part in words),)
        else:
            passed = tuple(words) if word == "join" else (text,) if word in ("draw", "erase") else ()
        try:
            news = getattr(bench, word)(*passed)
        except (ValueError, KeyError, RuntimeError, OverflowError, ArithmeticError) as error:
            name = error.__class__.__name__
            self.assertIs(error.__class__, getattr(errors, name))
            if name == "TooMany":
                return f"many {error.limit}"
            return "refused " + pledge_words(error.pledge) if name == "Refused" else ERRORS[name]
        return "from {} to {}".format(*news) if news else "nothing"

    def test_over_many_drawn_commands(self):
        seen = set()
        for seed in range(25):
            source = random.Random(90 + seed)
            web = source.choice((WHEEL, PRISM, GLUED, BOW, FOUR, FIVE, SINGLE))
            shell, bench, many = made_shell(web), Bench(web), 0
            for _ in range(70):
                command = self.drawn_command(source, bench.web)
                right = self.done(bench, command)
                self.assertEqual(shell(command), right, command)
                many += ANSWERS_OF_ERRORS.fullmatch(right) is None
                seen.add(right.split(" ")[0])
                self.assertEqual((len(shell), shell.bench()), (many, bench))
            self.assertEqual(history_of(shell.bench()), history_of(bench))
        self.assertEqual(seen, {"what", "place", "tie", "step", "operation", "unknown", "line", "undo", "refused", "from", "nothing",
            "web"})

    def test_texts_of_steps(self):
        shell = made_shell(WHEEL)
        for step in (("split", "h", "with", ("a", "b")), ("tie", "a", "with"), ("split", "with", "split", ("b", "h"))):
            answer = shell("grow " + write_step(step))
            self.assertIn(answer, ("nothing", "step"))
        self.assertEqual(shell("lots"), "a b c d h with")


if __name__ == "__main__":
    unittest.main()
