"""Promises [17.1], [17.2] and stage 17: a bench."""

import random
import unittest
from itertools import combinations

from tests.force import forms_of_steps, random_webs
from tests.force_bench import PlainBench, holds_by_force, is_pledge_by_force, level_of, made
from tests.samples import APART, BOW, FIVE, FOUR, GLUED, LETTERS, NOT_WEBS, ODD, ODD_TUPLES, PAIR, PRISM, SINGLE, SOME_WEBS, WHEEL
from tests.samples import bent, check_error, nested
from tests.test_drawings import HOUSES
from tests.test_steps import NO_STEPS
from wheelgrown import errors
from wheelgrown.base.webs import Web, full_web, ring_web
from wheelgrown.errors import InvalidNumber, InvalidOperation, InvalidPlace, InvalidStep, InvalidTie, InvalidWeb
from wheelgrown.errors import NothingToUndo, ParseError, Refused, TooMany, UnknownName
from wheelgrown.grow.steps import last_steps, split_steps, tie_steps
from wheelgrown.part.partings import held_level
from wheelgrown.part.ways import count_ways
from wheelgrown.use.bench import MAX_PLEDGES, Bench

SPLIT = ("split", "h", "k", ("a", "b"))
NO_LINES = ODD + ODD_TUPLES + (
    "", "place", "tie", "tie a", "place a b", "tie a b c", "place  a", "place a ", " place a", "tie a  b", "tie a b ", "tie a b\n",
    "place A", "tie a a",
    "Place a", "place a\nplace b", "tie a,b", "place abcdefghi", "tie a1 b", ("tie", "a", "b"), ("tie a b",), b"place a", WHEEL)
PLEDGES = (("held",), ("loose",), ("drawable",), ("level", 1), ("level", 2), ("level", 3), ("tied", "a", "b"), ("tied", "a", "zz"),
           ("ways", "a", "b", 0), ("ways", "a", "c", 2), ("ways", "a", "c", 3), ("ways", "b", "h", 10 ** 60 - 1), ("ways", "c", "q", 0))
NO_PLEDGES = ODD + ODD_TUPLES + (
    (), ("held", 1), ("held", ()), ("loose", "a"), ("drawable", True), ("level",), ("level", 0), ("level", 4), ("level", True),
    ("level", "1"), ("level", -1),
    ("level", 1, 1), ("level", 10 ** 60), ("tied", "a"), ("tied", "b", "a"), ("tied", "a", "a"), ("tied", "a", "b", "c"),
    ("tied", ("a", "b")), ("tied", "A", "b"),
    ("ways", "a", "b"), ("ways", "b", "a", 1), ("ways", "a", "a", 1), ("ways", "a", "b", -1), ("ways", "a", "b", True),
    ("ways", "a", "b", 10 ** 60),
    ("ways", "a", "b", "1"), ("ways", "a", "b", 1, 1), ("ways", ("a", "b"), 1), ("Held",), ["held"], "held", ("wheel",), ("held", None),
    WHEEL, (WHEEL,))


def state_of(bench):
    return (bench.web, bench.level, bench.pledges, list(bench), len(bench), str(bench))


def history_of(bench):
    """All states that the bench can be put to by taking changes back and doing them again, told on a twin."""
    other = bench.twin()
    found = [state_of(other)]
    for call in (other.undo, other.redo):
        while True:
            try:
                call()
            except NothingToUndo:
                break
            found.append(state_of(other))
    return found


class ExamplesTest(unittest.TestCase):
    def test_bench(self):
        bench = Bench(WHEEL)
        self.assertEqual(
            [bench.demand(("held",)), bench.grow(("split", "h", "k", ("a", "b"))), bench.level, str(bench),
            bench.during(lambda same: same.waive(("held",)))],
            [(), (), 3, "bench of 6 places, 9 ties, 1 pledges", ()])
        check_error(self, Refused, bench.erase, "tie h k", pledge=("held",))
        self.assertEqual(
            [bench.waive(("held",)), bench.erase("tie h k"), bench.level, bench.demand(("ways", "h", "k", 2)), bench.undo(many=2),
            ("held",) in bench,
             bench.join("h", "k")],
            [(), (3, 2), 2, (), (2, 3), False, ()])


class NewBenchTest(unittest.TestCase):
    def test_properties(self):
        for web in SOME_WEBS:
            bench = Bench(web)
            self.assertEqual((bench.web, bench.level, bench.pledges, len(bench)), (web, held_level(web), (), 0))
            self.assertEqual(list(bench), list(web.lines))
            self.assertEqual(str(bench), f"bench of {len(web)} places, {len(web.ties)} ties, 0 pledges")
            check_error(self, NothingToUndo, bench.undo, many=1)
            check_error(self, NothingToUndo, bench.redo, many=1)
            self.assertEqual((bench.undo(many=0), bench.redo(many=0)), ((), ()))
        with self.assertRaises(AttributeError):
            Bench(WHEEL).web = PRISM

    def test_no_webs(self):
        for web in NOT_WEBS + (Bench(WHEEL),):
            check_error(self, InvalidWeb, Bench, web)


class LinesTest(unittest.TestCase):
    def test_drawn_places_and_ties(self):
        bench = Bench(PAIR)
        self.assertEqual([bench.draw("place d"), bench.draw("tie e c"), bench.draw("tie b c"), bench.draw("tie a d"),
            bench.draw("tie d e"), bench.draw("place f")],
                         [(3, 0), (), (), (0, 1), (1, 2), (2, 0)])
        self.assertEqual(bench.web.lines, ("place f", "tie a b", "tie a d", "tie b c", "tie c e", "tie d e"))

    def test_values_that_are_no_lines(self):
        bench = Bench(WHEEL)
        bench.demand(("tied", "a", "b"))
        for line in NO_LINES:
            check_error(self, ParseError, bench.draw, line, number=None)
            check_error(self, ParseError, bench.erase, line, number=None)
        self.assertEqual((bench.web, len(history_of(bench))), (WHEEL, 3))

    def test_errors_of_draw(self):
        bench = Bench(WHEEL)
        bench.demand(("level", 3))
        for line in ("place a", "place h"):
            check_error(self, InvalidPlace, bench.draw, line)
        for line in ("tie a b", "tie b a", "tie h d"):
            check_error(self, InvalidTie, bench.draw, line)
        check_error(self, Refused, bench.draw, "place z", pledge=("level", 3))
        check_error(self, Refused, bench.draw, "tie a z", pledge=("level", 3))
        self.assertEqual(bench.draw("tie a c"), ())

    def test_more_places_and_more_ties(self):
        bench = Bench(ring_web(LETTERS[:16]))
        bench.demand(("level", 2))
        for line in ("place q", "tie a q", "tie q a", "tie q r"):
            check_error(self, TooMany, bench.draw, line, limit=16)
        bench = Bench(ring_web(LETTERS[:15]))
        check_error(self, TooMany, bench.draw, "tie y z", limit=16)
        self.assertEqual(bench.draw("tie a z"), (2, 1))
        full = Web(LETTERS[:15], tuple(combinations(LETTERS[:15], 2))[:60])
        bench = Bench(full)
        check_error(self, InvalidTie, bench.draw, "tie a b")
        check_error(self, TooMany, bench.draw, "tie n o", limit=60)
        check_error(self, TooMany, bench.draw, "tie n z", limit=60)
        check_error(self, TooMany, bench.draw, "tie y z", limit=16)
        self.assertEqual(len(Bench(full).web.ties), 60)
        bench.erase("tie a b")
        bench.draw("tie n o")
        bench.draw("place z")
        self.assertEqual((len(bench.web), len(bench.web.ties)), (16, 60))

    def test_errors_of_erase(self):
        bench = Bench(WHEEL)
        bench.demand(("held",))
        for line, word in (("place z", "z"), ("tie a z", "z"), ("tie z a", "z"), ("tie z y", "z"), ("tie y z", "y")):
            check_error(self, UnknownName, bench.erase, line, word=word)
        for line in ("tie a c", "tie c a"):
            check_error(self, InvalidTie, bench.erase, line)
        check_error(self, Refused, bench.erase, "tie b a", pledge=("held",))
        check_error(self, Refused, bench.erase, "place h", pledge=("held",))
        single = Bench(SINGLE)
        single.demand(("loose",))
        check_error(self, InvalidWeb, single.erase, "place a")
        check_error(self, UnknownName, single.erase, "place b", word="b")
        check_error(self, UnknownName, single.erase, "tie a b", word="b")

    def test_erased(self):
        bench = Bench(WHEEL)
        self.assertEqual([bench.erase("tie h a"), bench.erase("place c"), bench.erase("tie a b"), bench.erase("tie a d"),
            bench.erase("place a")],
                         [(3, 2), (), (2, 1), (1, 0), (0, 1)])
        self.assertEqual(bench.web.lines, ("tie b h", "tie d h"))


class StepsTest(unittest.TestCase):
    def test_there_and_back(self):
        for web in (WHEEL, PRISM, GLUED, BOW):
            for step in list(tie_steps(web))[:6] + list(split_steps(web, "k"))[:8]:
                bench = Bench(web)
                bench.grow(step)
                self.assertEqual((bench.web, bench.level), (made(web, "grow", step), level_of(made(web, "grow", step))))
                bench.shrink(step)
                self.assertEqual(bench.web, web)
            for step in last_steps(web):
                bench = Bench(web)
                bench.shrink(step)
                self.assertEqual(bench.web, made(web, "shrink", step))

    def test_steps_that_cannot_be_done(self):
        bench = Bench(WHEEL)
        bench.demand(("held",))
        for step in NO_STEPS + (("tie", "a", "b"), ("split", "a", "k", ("b", "d"))):
            check_error(self, InvalidStep, bench.grow, step)
        for step in NO_STEPS + (("tie", "a", "c"), SPLIT):
            check_error(self, InvalidStep, bench.shrink, step)
        for step in bent(SPLIT):
            if repr(step) not in [repr(other) for other in forms_of_steps(WHEEL.places, ("k", "z", "x", "y"))]:
                check_error(self, InvalidStep, bench.grow, step)
        check_error(self, Refused, bench.shrink, ("tie", "a", "b"), pledge=("held",))
        self.assertEqual(bench.web, WHEEL)
        great = Bench(Web(LETTERS[:16], tuple(combinations(LETTERS[:16], 2))[:60]))
        check_error(self, InvalidStep, great.grow, ("tie", "o", "p"))

    def test_joined(self):
        bench = Bench(PRISM)
        for value in ODD + ODD_TUPLES + ("z", WHEEL):
            if value not in PRISM.places:
                check_error(self, UnknownName, bench.join, value, "a", word=value)
                check_error(self, UnknownName, bench.join, "a", value, word=value)
                check_error(self, UnknownName, bench.join, value, "z", word=value)
        for a, b in (("a", "e"), ("e", "a"), ("a", "a")):
            check_error(self, InvalidTie, bench.join, a, b)
        bench.demand(("held",))
        check_error(self, Refused, bench.join, "a", "b", pledge=("held",))
        self.assertEqual([bench.join("d", "a"), bench.web.places], [(), ("b", "c", "d", "e", "f")])


class PledgesTest(unittest.TestCase):
    def test_kinds_against_force(self):
        webs = (SINGLE, PAIR, APART, FOUR, WHEEL, PRISM, FIVE, GLUED, BOW, HOUSES,
            full_web(("a", "b", "c"))) + tuple(random_webs(random.Random(61), 30, 2, 6))
        for web in webs:
            ways = [("ways", a, b, many) for a, b in combinations(web.places[:3], 2) for many in range(5)]
            for pledge in PLEDGES + tuple(ways):
                bench = Bench(web)
                if holds_by_force(web, pledge):
                    self.assertEqual((bench.demand(pledge), bench.pledges), ((), (pledge,)))
                else:
                    check_error(self, Refused, bench.demand, pledge, pledge=pledge)
                    self.assertEqual((bench.pledges, len(history_of(bench))), ((), 1))

    def test_pledges_that_hold_just_so(self):
        for web in (PRISM, GLUED, BOW):
            for a, b in combinations(web.places, 2):
                many = count_ways(web, a, b)
                bench = Bench(web)
                bench.demand(("ways", a, b, many))
                check_error(self, Refused, bench.demand, ("ways", a, b, many + 1), pledge=("ways", a, b, many + 1))
            bench = Bench(web)
            for count in range(1, 4):
                if count <= held_level(web):
                    self.assertEqual(bench.demand(("level", count)), ())
                else:
                    check_error(self, Refused, bench.demand, ("level", count), pledge=("level", count))

    def test_values_that_are_no_pledges(self):
        bench = Bench(WHEEL)
        bench.demand(("level", 1))
        for pledge in NO_PLEDGES:
            self.assertFalse(is_pledge_by_force(pledge))
            check_error(self, InvalidOperation, bench.demand, pledge)
            check_error(self, InvalidOperation, bench.waive, pledge)
            self.assertIs(pledge in bench, False)
        for right in (("level", 1), ("tied", "a", "b"), ("ways", "a", "b", 2)):
            for pledge in bent(right):
                if not is_pledge_by_force(pledge) or pledge == ("level", 1):
                    check_error(self, InvalidOperation, bench.demand, pledge)
                if repr(pledge) != repr(("level", 1)):
                    check_error(self, InvalidOperation, bench.waive, pledge)

    def test_ten_pledges(self):
        bench = Bench(full_web(LETTERS[:6]))
        pledges = [("ways", a, b, 0) for a, b in combinations(LETTERS[:6], 2)][:10]
        for pledge in pledges:
            self.assertEqual(bench.demand(pledge), ())
        self.assertEqual((bench.pledges, len(bench), MAX_PLEDGES), (tuple(pledges), 10, 10))
        check_error(self, TooMany, bench.demand, ("held",), limit=10)
        # TooMany comes ahead of Refused, and behind InvalidOperation.
        check_error(self, TooMany, bench.demand, ("loose",), limit=10)
        check_error(self, InvalidOperation, bench.demand, pledges[3])
        check_error(self, InvalidOperation, bench.demand, ("level", True))
        bench.waive(pledges[4])
        self.assertEqual((bench.demand(("held",)), bench.pledges), ((), tuple(pledges[:4] + pledges[5:] + [("held",)])))

    def test_the_first_pledge_that_would_not_hold(self):
        bench = Bench(WHEEL)
        rows = [("drawable",), ("ways", "a", "b", 3), ("held",), ("tied", "a", "b"), ("level", 2)]
        for pledge in rows:
            bench.demand(pledge)
        check_error(self, Refused, bench.erase, "tie a b", pledge=("ways", "a", "b", 3))
        bench.waive(("ways", "a", "b", 3))
        check_error(self, Refused, bench.erase, "tie a b", pledge=("held",))
        bench.waive(("held",))
        check_error(self, Refused, bench.erase, "tie a b", pledge=("tied", "a", "b"))
        bench.demand(("held",))
        check_error(self, Refused, bench.erase, "tie a b", pledge=("tied", "a", "b"))
        bench.waive(("tied", "a", "b"))
        check_error(self, Refused, bench.erase, "tie a b", pledge=("held",))
        bench.waive(("held",))
        self.assertEqual(bench.erase("tie a b"), (3, 2))
        check_error(self, Refused, bench.draw, "place z", pledge=("drawable",))

    def test_drawable_webs_hang_together(self):
        bench = Bench(SINGLE)
        bench.demand(("drawable",))
        check_error(self, Refused, bench.draw, "place b", pledge=("drawable",))
        self.assertEqual(bench.draw("tie a b"), ())
        check_error(self, Refused, Bench(APART).demand, ("drawable",), pledge=("drawable",))

    def test_demands_and_waivers_are_changes(self):
        bench = Bench(WHEEL)
        self.assertEqual([bench.demand(("held",)), bench.waive(("held",)), bench.demand(("level", 3)), bench.undo(), bench.undo(),
            bench.pledges],
                         [(), (), (), (), (), (("held",),)])
        self.assertEqual([bench.redo(many=2), bench.pledges, bench.undo(many=3), bench.pledges], [(), (("level", 3),), (), ()])


class UndoTest(unittest.TestCase):
    def made_bench(self):
        bench = Bench(WHEEL)
        bench.erase("tie a b")
        bench.erase("tie a d")
        bench.draw("place z")
        return bench

    def test_several_at_once(self):
        bench = self.made_bench()
        self.assertEqual(bench.level, 0)
        self.assertEqual([bench.undo(many=2), bench.redo(), bench.redo(), bench.undo(many=3), bench.redo(many=3)],
            [(0, 2), (2, 1), (1, 0), (0, 3), (3, 0)])
        self.assertEqual([bench.undo(many=0), bench.redo(many=0), bench.level], [(), (), 0])

    def test_more_than_there_are(self):
        bench = self.made_bench()
        for many in (4, 5, 10 ** 60 - 1):
            check_error_by_name(self, NothingToUndo, bench.undo, many)
        check_error_by_name(self, NothingToUndo, bench.redo, 1)
        bench.undo(many=2)
        for call, many in ((bench.undo, 2), (bench.redo, 3)):
            check_error_by_name(self, NothingToUndo, call, many)
        self.assertEqual((bench.level, bench.redo(many=2)), (2, (2, 0)))

    def test_numbers(self):
        bench = self.made_bench()
        for many in ODD + ODD_TUPLES + (-1, True, False, "1", 10 ** 60, None, (1,)):
            if not isinstance(many, int) or isinstance(many, bool) or not 0 <= many < 10 ** 60:
                for call in (bench.undo, bench.redo):
                    with self.assertRaises(InvalidNumber) as caught:
                        call(many=many)
                    self.assertIs(caught.exception.__class__, InvalidNumber)
                    self.assertIs(caught.exception.value, many)
        with self.assertRaises(TypeError):
            bench.undo(1)
        self.assertEqual(len(history_of(bench)), 7)

    def test_done_again_until_another_change(self):
        bench = self.made_bench()
        bench.undo(many=2)
        check_error(self, InvalidTie, bench.erase, "tie a c")
        self.assertEqual(bench.redo(), (2, 1))
        bench.undo()
        bench.demand(("level", 2))
        check_error(self, NothingToUndo, bench.redo, many=1)
        self.assertEqual((bench.undo(many=2), bench.web), ((2, 3), WHEEL))
        self.assertEqual((bench.redo(many=2), bench.pledges), ((3, 2), (("level", 2),)))

    def test_what_is_refused_is_no_change(self):
        bench = self.made_bench()
        bench.undo()
        before = history_of(bench)
        for call, passed in ((bench.draw, "tie b c"), (bench.erase, "place q"), (bench.grow, None), (bench.shrink, SPLIT),
                (bench.demand, ("held",)),
                             (bench.waive, ("held",))):
            with self.assertRaises(Exception):
                call(passed)
            self.assertEqual(history_of(bench), before)


class TrialTest(unittest.TestCase):
    def test_the_bench_itself(self):
        bench = Bench(WHEEL)
        with bench.trial() as same:
            self.assertIs(same, bench)
            same.erase("tie a b")
            self.assertEqual(bench.level, 2)
        self.assertEqual((bench.level, bench.web), (3, WHEEL))

    def test_changes_to_take_back_and_to_do_again(self):
        bench = Bench(WHEEL)
        bench.demand(("level", 1))
        bench.erase("tie a b")
        bench.draw("tie a k")
        bench.undo()
        before = history_of(bench)
        with bench.trial():
            bench.undo(many=2)
            bench.demand(("held",))
            check_error(self, NothingToUndo, bench.redo, many=1)
        self.assertEqual(history_of(bench), before)
        self.assertEqual((bench.redo(), bench.undo(many=3), bench.redo(many=3)), ((2, 1), (1, 3), (3, 1)))

    def test_trials_within_trials(self):
        bench = Bench(WHEEL)
        with bench.trial():
            bench.erase("tie a b")
            inner = history_of(bench)
            with bench.trial() as same:
                same.erase("place a")
                with same.trial():
                    same.erase("place h")
                self.assertEqual(same.web, WHEEL - ("a",))
            self.assertEqual(history_of(bench), inner)
            bench.undo()
        self.assertEqual(history_of(bench), [state_of(Bench(WHEEL))])

    def test_as_before_the_block(self):
        # What was done behind the call of `trial` but ahead of the block stays.
        bench = Bench(WHEEL)
        trial = bench.trial()
        bench.erase("tie a b")
        for place in ("a", "h"):
            with trial as same:
                same.erase(f"place {place}")
            self.assertEqual(bench.web, WHEEL.without_tie("a", "b"))

    def test_errors_go_on(self):
        bench = Bench(WHEEL)
        bench.demand(("tied", "a", "b"))
        before = history_of(bench)
        for line, kind in (("tie a b", Refused), ("tie a c", InvalidTie), ("place q", UnknownName), ("", ParseError)):
            with self.assertRaises(kind):
                with bench.trial() as same:
                    same.erase("tie b h")
                    same.erase(line)
            self.assertEqual(history_of(bench), before)
        with self.assertRaises(ZeroDivisionError):
            with bench.trial() as same:
                with same.trial():
                    same.erase("tie c d")
                    raise ZeroDivisionError
        self.assertEqual(history_of(bench), before)

    def test_during(self):
        bench = Bench(WHEEL)
        before = history_of(bench)
        self.assertEqual(bench.during(lambda same: (same.erase("tie a b"), same.level, same is bench)), ((3, 2), 2, True))
        self.assertEqual(history_of(bench), before)
        self.assertEqual(bench.during(lambda same: same.during(lambda again: again.erase("place h"))), (3, 2))
        self.assertIs(bench.during(lambda same: same), bench)
        self.assertIsNone(bench.during(lambda same: None))
        check_error(self, ParseError, bench.during, lambda same: (same.erase("place a"), same.draw("a")))
        self.assertEqual(history_of(bench), before)


class TwinTest(unittest.TestCase):
    def test_all_of_it(self):
        bench = Bench(WHEEL)
        bench.demand(("level", 1))
        bench.erase("tie a b")
        bench.draw("tie a c")
        bench.undo()
        twin = bench.twin()
        self.assertEqual((twin, history_of(twin)), (bench, history_of(bench)))
        self.assertIsNot(twin, bench)

    def test_they_go_on_by_themselves(self):
        bench = Bench(WHEEL)
        bench.demand(("level", 1))
        twin = bench.twin()
        before = history_of(bench)
        twin.erase("tie a b")
        twin.waive(("level", 1))
        self.assertEqual(history_of(bench), before)
        bench.draw("tie a c")
        bench.undo(many=2)
        self.assertEqual((twin.web, twin.pledges, bench.web, bench.pledges), (WHEEL.without_tie("a", "b"), (), WHEEL, ()))
        self.assertEqual((twin.undo(many=3), bench.redo(many=2), twin == bench), ((2, 3), (), False))
        with bench.trial():
            other = bench.twin()
            bench.erase("place a")
        self.assertEqual(other, bench)


class ValuesTest(unittest.TestCase):
    def test_lines_and_pledges_within(self):
        bench = Bench(BOW + Web(("z",), ()))
        for pledge in (("loose",), ("tied", "a", "b"), ("ways", "a", "b", 2)):
            bench.demand(pledge)
            self.assertIs(pledge in bench, True)
        self.assertTrue(all(line in bench for line in bench.web.lines))
        for value in NOT_WEBS + NO_LINES + NO_PLEDGES + (
                ("held",), ("tied", "a", "c"), ("ways", "a", "b", 1), "tie b a", "place a", "place q", "tie a e", ("a", "b"), "a", bench,
                BOW, ["loose"]):
            if value != "tie a b":
                self.assertIs(value in bench, False, value)
        self.assertIs("place z" in bench, True)

    def test_equal_benches(self):
        one, other = Bench(WHEEL), Bench(Web(WHEEL.places, WHEEL.ties))
        self.assertIs(one == other, True)
        self.assertIs(one != other, False)
        one.demand(("held",))
        self.assertIs(one == other, False)
        other.demand(("level", 3))
        other.demand(("held",))
        self.assertIs(one == other, False)
        one.demand(("level", 3))
        # The order of the pledges counts, the changes behind do not.
        self.assertEqual((one == other, one != other), (False, True))
        other.waive(("level", 3))
        other.demand(("level", 3))
        self.assertIs(one == other, True)
        self.assertIs(Bench(WHEEL) == Bench(PRISM), False)
        for value in NOT_WEBS + (WHEEL, WHEEL.lines, Bench(PRISM)):
            self.assertIs(one == value, False)
            self.assertIs(one != value, True)

    def test_lines_in_order(self):
        bench = Bench(BOW + Web(("z",), ()))
        self.assertEqual([list(bench), list(bench)], [list(bench.web.lines)] * 2)
        bench.erase("place z")
        self.assertEqual(list(bench), list(BOW.lines))


def check_error_by_name(case, kind, call, many):
    with case.assertRaises(kind) as caught:
        call(many=many)
    case.assertIs(caught.exception.__class__, kind)
    case.assertEqual(caught.exception.many, many)


class AgainstPlainWebsTest(unittest.TestCase):
    """A bench beside a row of plain webs and pledges, over many drawn changes."""

    def drawn_change(self, source, web):
        names = sorted({*web.places, "x", "y"})
        a, b = source.choice(names), source.choice(names)
        roll = source.random()
        if roll < 0.4:
            line = f"tie {a} {b}" if source.random() < 0.8 and a != b else f"place {a}"
            return (source.choice(("draw", "draw", "erase")), line)
        if roll < 0.5:
            return ("join", *source.choice(web.ties or (("a", "b"),)))
        if roll < 0.6:
            return ("join", a, b)
        if roll < 0.8:
            steps = list(tie_steps(web)) + [step for new in ("x", "y") if new not in web.places for step in split_steps(web, new)]
            return ("grow", source.choice(steps or [SPLIT]))
        return ("shrink", source.choice(last_steps(web) + (SPLIT,)))

    def check_change(self, bench, plain, change, passed):
        right = made(plain.web, change, *passed)
        call = getattr(bench, change)
        if isinstance(right, Web):
            right = plain.changed(right)
            if isinstance(right, tuple):
                self.assertEqual(call(*passed), right, (change, passed))
                return
            right = ["Refused", right[0]]
        error = check_error(self, getattr(errors, right[0]), call, *passed)
        kept = {"UnknownName": "word", "TooMany": "limit", "Refused": "pledge"}.get(right[0])
        self.assertEqual([] if kept is None else [getattr(error, kept)], right[1:])

    def check_pledge(self, bench, plain, source):
        a, b = sorted(source.sample(sorted({*plain.web.places, "x", "y"}), 2))
        pledge = source.choice(PLEDGES + (("tied", a, b), ("ways", a, b, source.randrange(4)), ("level", 2)))
        if pledge in plain.pledges:
            self.assertEqual(bench.waive(pledge), plain.go_on(plain.web, tuple(other for other in plain.pledges if other != pledge)))
        elif holds_by_force(plain.web, pledge) and len(plain.pledges) < 10:
            self.assertEqual(bench.demand(pledge), plain.go_on(plain.web, plain.pledges + (pledge,)))
        else:
            kind = Refused if len(plain.pledges) < 10 else TooMany
            check_error(self, kind, bench.demand, pledge)
            check_error(self, InvalidOperation, bench.waive, pledge)

    def check_move(self, bench, plain, source):
        many = source.randrange(4)
        call, sign, free = source.choice(((bench.undo, -1, plain.at), (bench.redo, 1, len(plain.rows) - plain.at - 1)))
        if many > free:
            check_error_by_name(self, NothingToUndo, call, many)
        else:
            self.assertEqual(call(many=many), plain.go_by(sign * many))

    def test_over_many_drawn_changes(self):
        for seed in range(12):
            source = random.Random(70 + seed)
            web = source.choice((WHEEL, PRISM, GLUED, SINGLE, PAIR, BOW, FOUR))
            bench, plain = Bench(web), PlainBench(web)
            for _ in range(45):
                roll = source.random()
                if roll < 0.55 and len(plain.web) < 8:
                    change, *passed = self.drawn_change(source, plain.web)
                    self.check_change(bench, plain, change, passed)
                elif roll < 0.75:
                    self.check_pledge(bench, plain, source)
                else:
                    self.check_move(bench, plain, source)
                self.assertEqual((bench.web, bench.pledges, bench.level), (plain.web, plain.pledges, level_of(plain.web)))
            self.assertEqual(len(history_of(bench)), 1 + plain.at + len(plain.rows) - 1)


class StateTest(unittest.TestCase):
    def test_webs_are_unchanged(self):
        before = WHEEL.lines
        bench = Bench(WHEEL)
        told = bench.web
        bench.erase("tie a b")
        bench.draw("tie a z")
        self.assertEqual((WHEEL.lines, told.lines), (before, before))
        row = bench.pledges
        bench.demand(("level", 1))
        self.assertEqual((row, bench.pledges), ((), (("level", 1),)))

    def test_nested_values(self):
        bench = Bench(WHEEL)
        for value in (nested(8), nested(6)):
            check_error(self, ParseError, bench.draw, value, number=None)
            check_error(self, InvalidOperation, bench.demand, value)
            check_error(self, InvalidStep, bench.grow, value)


if __name__ == "__main__":
    unittest.main()
