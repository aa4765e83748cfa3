"""Promises [0.16], [0.17], [8.1] and stage 8: papers."""

import random
import time
import unittest
from itertools import combinations

from tests.force import ahead, all_webs, forms_of_steps, held_web_of, is_held_by_force, is_walk_to, partings_of, random_webs, tied
from tests.samples import APART, BOW, FIVE, FOUR, GLUED, LETTERS, NOT_WEBS, ODD, ODD_TUPLES, PAIR, PRISM, SINGLE, SOME_WEBS
from tests.samples import WHEEL, bent, check_error, nested
from tests.test_growths import GROWTH, is_in
from wheelgrown.base.webs import Web, full_web
from wheelgrown.base.wheels import is_wheel, is_wheel_web
from wheelgrown.errors import InvalidOperation, InvalidWeb, Parted
from wheelgrown.grow.growths import Growth, is_growth
from wheelgrown.grow.papers import growth_of, is_grown, is_paper, paper
from wheelgrown.grow.steps import last_steps, split_steps, tie_steps, web_ahead, web_behind

SMALL_WEBS = tuple(all_webs("a")) + tuple(all_webs("ab")) + tuple(all_webs("abc")) + tuple(all_webs("abcd"))
DRAWN = tuple(all_webs("abcde"))[::5] + tuple(random_webs(random.Random(14), 60, 4, 8))
HELD = tuple(held_web_of(random.Random(seed), size, many) for seed, (size, many) in enumerate(
    ((6, 9), (6, 11), (7, 12), (8, 12), (8, 15), (9, 20), (10, 15), (12, 24))))
# Webs of sixteen places and of up to sixty ties.
GREAT = tuple(held_web_of(random.Random(seed), 16, many) for seed, many in enumerate((32, 40, 50, 60)))


class ExamplesTest(unittest.TestCase):
    def test_papers(self):
        self.assertEqual(
            [paper(GLUED), is_paper(GLUED, ("parted", ("a", "b"))), paper(WHEEL), paper(full_web(("p", "q"))), is_grown(PRISM)],
            [("parted", ("a", "b")), True, ("grown", ("h", ("a", "b", "c", "d")), ()), ("small", 2), True])

    def test_growths(self):
        self.assertEqual(
            [growth_of(FIVE).web == FIVE, growth_of(PRISM).spokes, is_paper(PRISM, ("parted", ("a", "b"))), paper(FIVE)[0]],
            [True, 4, False, "grown"])
        check_error(self, Parted, growth_of, GLUED, parting=("a", "b"))


class PaperTest(unittest.TestCase):
    def check_paper(self, web):
        """A look at the paper of the web without the package's own functions."""
        told = paper(web)
        held = is_held_by_force(web)
        self.assertIs(is_paper(web, told), True)
        self.assertEqual(paper(web), told)
        self.assertIs(is_grown(web), held)
        if len(web.places) < 4:
            self.assertEqual(told, ("small", len(web.places)))
            check_error(self, InvalidOperation, growth_of, web)
        elif held:
            kind, wheel, steps = told
            self.assertTrue(kind == "grown" and is_wheel(wheel) and is_walk_to(web, wheel, steps))
            growth = growth_of(web)
            self.assertTrue(isinstance(growth, Growth) and is_walk_to(web, growth.wheel, growth.steps))
            self.assertEqual(growth.web, web)
        else:
            self.assertEqual((told[0], len(told)), ("parted", 2))
            self.assertIn(told[1], partings_of(web))
            self.assertIn(check_error(self, Parted, growth_of, web).parting, partings_of(web))

    def test_against_force(self):
        for web in SMALL_WEBS + DRAWN + HELD + SOME_WEBS + (FIVE, GLUED, BOW, APART):
            self.check_paper(web)

    def test_kinds_of_papers(self):
        for web in SMALL_WEBS + DRAWN[:80] + SOME_WEBS + HELD[:3]:
            partings = partings_of(web)
            for size in range(3):
                for places in combinations(web.places, size):
                    self.assertIs(is_paper(web, ("parted", places)), places in partings)
            for count in range(-1, 7):
                self.assertIs(is_paper(web, ("small", count)), count == len(web.places) and count < 4)
            if not is_held_by_force(web):
                for wheel, steps in ((("h", ("a", "b", "c", "d")), ()), (("d", ("a", "b", "c")), ())):
                    self.assertIs(is_paper(web, ("grown", wheel, steps)), False)

    def test_small_webs_with_a_parting_have_papers_of_both_kinds(self):
        three = Web.of_ties(("a", "b"), ("b", "c"))
        for web, places in ((APART, ()), (three, ("b",)), (Web(("a", "b", "c"), ()), ()), (Web(("a", "b", "c"), ()), ("c",)),
                            (Web(("a", "b", "c"), (("a", "b"),)), ())):
            self.assertIs(is_paper(web, ("parted", places)), True)
            self.assertIs(is_paper(web, ("small", len(web.places))), True)
            self.assertEqual(paper(web)[0], "small")
        for web in (SINGLE, PAIR, full_web(("a", "b", "c"))):
            self.assertIs(is_paper(web, ("parted", ())), False)

    def test_every_growth_is_taken(self):
        # All walks back along steps from held webs: whoever made a growth, it is a paper.
        for web in (PRISM, FIVE, FIVE.without_tie("b", "d")) + HELD[:1]:
            for wheel, steps in islice_of(walks_of(web), 200):
                self.assertIs(is_paper(web, ("grown", wheel, steps)), True)
                self.assertIs(is_paper(web, ("grown", wheel, steps[:-1])), steps == ())
                self.assertIs(is_paper(web, ("grown", (wheel, steps))), False)

    def test_values_that_are_no_papers(self):
        growth = paper(PRISM)
        wrong = ODD + ODD_TUPLES + (
            (), ("small",), ("parted",), ("grown",), ("small", 6), ("parted", ()), ("parted", ("a", "b")), ("grown", growth[1]),
            list(growth), growth + ((),), ("held",) + growth[1:], growth[1:], GROWTH, ("grown", GROWTH), growth_of(PRISM), WHEEL)
        for value in wrong:
            self.assertIs(is_paper(PRISM, value), False, value)
        for web, right in ((PRISM, growth), (GLUED, paper(GLUED)), (BOW, paper(BOW)), (PAIR, paper(PAIR)), (SINGLE, paper(SINGLE))):
            for value in bent(right):
                self.assertIs(is_paper(web, value), self.is_right(web, value), value)
        self.assertIs(is_paper(SINGLE, ("small", True)), False)
        self.assertIs(is_paper(SINGLE, ("small", 1)), True)

    def is_right(self, web, value):
        rights = [("parted", places) for places in partings_of(web)]
        rights += [("small", len(web.places))] if len(web.places) < 4 else []
        rights += [("grown", wheel, steps) for wheel, steps in walks_of(web)] if is_held_by_force(web) else []
        return is_in(value, rights)

    def test_no_webs(self):
        for web in NOT_WEBS:
            for call in (paper, growth_of, is_grown):
                check_error(self, InvalidWeb, call, web)
            for value in (None, ("small", 1), nested(8)):
                check_error(self, InvalidWeb, is_paper, web, value)

    def test_small_before_parted(self):
        for web in (SINGLE, APART, PAIR, Web(("a", "b", "c"), ())):
            check_error(self, InvalidOperation, growth_of, web)
        check_error(self, Parted, growth_of, Web(("a", "b", "c", "d"), ()), parting=())
        check_error(self, Parted, growth_of, Web.of_ties(("a", "b"), ("b", "c"), ("b", "d")), parting=("b",))


def walks_of(web):
    """All growths of a held web, as pairs, by going back along steps to held webs."""
    if is_wheel_web(web):
        for hub in web.places:
            rest = [place for place in web.places if place != hub]
            for ring in rings_in(web, rest):
                if is_walk_to(web, (hub, ring), ()):
                    yield (hub, ring), ()
        return
    for step in forms_of_steps(web.places, web.places):
        other = ahead(web, step)
        if other is not None and is_held_by_force(other):
            for wheel, steps in walks_of(other):
                yield wheel, steps + (step,)


def rings_in(web, places):
    """The plain rings through just these places."""
    rows = [(min(places),)]
    for _ in places[1:]:
        rows = [row + (place,) for row in rows for place in web.neighbours(row[-1]) if place in places and place not in row]
    return [row for row in rows if row[1] < row[-1] and web.is_tied(row[0], row[-1])]


def islice_of(rows, many):
    return [row for _, row in zip(range(many), rows)]


class GreatWebsTest(unittest.TestCase):
    def test_great_webs(self):
        apart = Web(LETTERS[:16], tuple((a, b) for a in LETTERS[:4] for b in LETTERS[4:16]))
        braid = Web(LETTERS[:16], tuple(sorted(tied(LETTERS[k], LETTERS[(k + by) % 16]) for k in range(16) for by in (1, 2))))
        webs = GREAT + (full_web(LETTERS[:11]), apart, braid)
        for web in webs:
            growth = growth_of(web)
            self.assertTrue(is_walk_to(web, growth.wheel, growth.steps))
            self.assertIs(is_paper(web, paper(web)), True)

    def test_many_times(self):
        begin = time.process_time()
        for _ in range(25):
            for web in GREAT:
                self.assertEqual(growth_of(web).web, web)
        self.assertLess(time.process_time() - begin, 20)


class MainStatementTest(unittest.TestCase):
    def test_just_one_of_three_is_true(self):
        for web in SMALL_WEBS + DRAWN + SOME_WEBS + HELD:
            small = len(web.places) < 4
            told = [small, not small and partings_of(web) != (), not small and is_grown(web)]
            self.assertEqual(told.count(True), 1)

    def test_steps_keep_held_webs_held(self):
        for web in HELD[:4] + (FIVE, PRISM, WHEEL, FOUR):
            for step in list(tie_steps(web)) + list(split_steps(web, "new")):
                self.assertTrue(is_held_by_force(web_behind(web, step)))

    def test_a_way_leads_back_from_held_webs_that_are_no_wheels(self):
        for web in tuple(web for web in DRAWN if is_held_by_force(web)) + HELD + (FIVE, PRISM, WHEEL, FOUR):
            back = [step for step in last_steps(web) if is_held_by_force(web_ahead(web, step))]
            self.assertIs(back == [], is_wheel_web(web))

    def test_growths_are_of_different_lengths_and_wheels(self):
        # [0.22]: not each held web is grown from a wheel with three spokes, nor are all its growths equally long.
        self.assertEqual({len(wheel[1]) for wheel, _ in walks_of(PRISM)}, {4})
        web = Web.from_lines("tie a b", "tie a c", "tie a d", "tie a e", "tie a f", "tie b c", "tie b d", "tie b e", "tie c d",
                             "tie c f", "tie e f")
        self.assertEqual({len(steps) for _, steps in walks_of(web)}, {1, 3})
        self.assertTrue(all(is_growth(web, walk) for walk in walks_of(web)))

    def test_webs_are_unchanged(self):
        for web in (PRISM, GLUED, PAIR, GREAT[0]):
            before = web.lines
            paper(web)
            self.assertEqual(web.lines, before)


if __name__ == "__main__":
    unittest.main()
