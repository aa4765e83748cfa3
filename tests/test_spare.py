"""Promises [0.17], [0.18], [9.1] to [9.3] and stage 9: ties that a held web can spare."""

import random
import unittest

from tests.force import ahead, all_webs, forms_of_steps, held_web_of, is_held_by_force, tied
from tests.samples import APART, BOW, FIVE, FOUR, GLUED, LETTERS, NOT_WEBS, ODD, ODD_TUPLES, PAIR, PRISM, SINGLE, SOME_WEBS
from tests.samples import WHEEL, bent, check_error, nested
from tests.test_growths import is_in
from wheelgrown.base.webs import Web, full_web
from wheelgrown.base.wheels import each_ring, is_wheel_web, wheel_web
from wheelgrown.count.webs import each_held
from wheelgrown.errors import InvalidOperation, InvalidWeb
from wheelgrown.grow.spare import is_lean, is_lean_within, is_spare_step, joined_ties, lean_web, spare_steps, struck_ties

ALL = (struck_ties, joined_ties, spare_steps, is_lean, lean_web)
SIX = tuple(web for web in each_held(LETTERS[:6]) if len(web.ties) < 12)[::23]
GREATER = tuple(held_web_of(random.Random(seed), size, many) for seed, (size, many) in enumerate(
    ((7, 12), (7, 14), (7, 17), (8, 12), (8, 14), (8, 16), (8, 20), (9, 17), (10, 16), (10, 22), (11, 24))))
GREAT = tuple(held_web_of(random.Random(seed), 16, many) for seed, many in enumerate((30, 36, 60)))
HELD = (FOUR, WHEEL, PRISM, FIVE, FIVE.without_tie("a", "b")) + tuple(each_held(LETTERS[:5])) + SIX + GREATER
WHEELS = tuple(wheel_web(("z", LETTERS[:size])) for size in range(3, 16))
# Three places, and others that are tied to just these: they are lean.
LEAN_BY_THREE = tuple(Web.of_ties(*[(a, b) for a in LETTERS[:3] for b in LETTERS[3:size]]) for size in (6, 7, 8, 10, 16))


def without(web, tie):
    return Web(web.places, tuple(other for other in web.ties if other != tie))


def joined(web, tie):
    """The web with a tie drawn together to its first place, by all pairs of ends."""
    a, b = tie
    ties = {tied(*[a if end == b else end for end in other]) for other in web.ties if other != tie}
    return Web(tuple(place for place in web.places if place != b), tuple(sorted(ties)))


def struck_by_force(web):
    return tuple(tie for tie in web.ties if is_held_by_force(without(web, tie)))


def joined_by_force(web):
    return tuple(tie for tie in web.ties if is_held_by_force(joined(web, tie)))


def is_lean_by_force(web, value):
    return (isinstance(value, Web) and value.places == web.places and set(value.ties) <= set(web.ties)
            and is_held_by_force(value) and struck_by_force(value) == ())


class ExamplesTest(unittest.TestCase):
    def test_ties(self):
        self.assertEqual(
            [struck_ties(WHEEL), len(joined_ties(WHEEL)), struck_ties(FIVE) == FIVE.ties, len(joined_ties(PRISM)),
             joined_ties(full_web(("a", "b", "c", "d")))],
            [(), 4, True, 3, ()])

    def test_steps(self):
        self.assertEqual(
            [spare_steps(WHEEL), len(spare_steps(PRISM)), is_spare_step(PRISM, ("split", "a", "d", ("e", "f"))), is_lean(PRISM),
             len(lean_web(FIVE).ties)],
            [(), 6, True, True, 8])


class TiesTest(unittest.TestCase):
    def test_against_force(self):
        for web in HELD + WHEELS[:6] + LEAN_BY_THREE[:4]:
            self.assertEqual(struck_ties(web), struck_by_force(web))
            self.assertEqual(joined_ties(web), joined_by_force(web))
            self.assertIs(is_lean(web), struck_by_force(web) == ())

    def test_great_webs(self):
        for web in GREAT + WHEELS[-1:] + (full_web(LETTERS[:11]),):
            self.assertEqual(struck_ties(web), struck_by_force(web))
            self.assertEqual(joined_ties(web), joined_by_force(web))

    def test_at_least_half_as_many_joined_ties_as_places(self):
        for web in HELD + GREAT + WHEELS + LEAN_BY_THREE:
            many = len(joined_ties(web))
            self.assertGreaterEqual(many, 0 if len(web) == 4 else (len(web) + 1) // 2)
        self.assertEqual(joined_ties(FOUR), ())
        self.assertEqual([len(joined_ties(web)) for web in each_held(LETTERS[:5]) if is_wheel_web(web)], [4] * 15)

    def test_four_and_five_places(self):
        self.assertEqual((struck_ties(FOUR), spare_steps(FOUR), is_lean(FOUR), lean_web(FOUR)), ((), (), True, FOUR))
        self.assertEqual((len(struck_ties(FIVE)), len(joined_ties(FIVE))), (10, 10))
        self.assertEqual(len(struck_ties(FIVE.without_tie("a", "b"))), 3)

    def test_wheels(self):
        for web in WHEELS:
            self.assertEqual((struck_ties(web), spare_steps(web), is_lean(web), lean_web(web)), ((), (), True, web))


class StepsTest(unittest.TestCase):
    def test_against_force(self):
        for web in (FOUR, WHEEL, PRISM, FIVE) + tuple(each_held(LETTERS[:5]))[::3] + SIX[:15] + GREATER[:2]:
            forms = forms_of_steps(web.places, web.places)
            right = [step for step in forms if ahead(web, step) is not None and is_held_by_force(ahead(web, step))]
            self.assertEqual(spare_steps(web), tuple(right))
            self.assertEqual([step for step in forms if is_spare_step(web, step)], right)

    def test_a_struck_tie_gives_one_step_and_a_thin_joined_one_two(self):
        for web in HELD + GREAT + LEAN_BY_THREE:
            thin = [tie for tie in joined_ties(web) if web.is_thin(*tie)]
            steps = spare_steps(web)
            self.assertEqual([step[1:] for step in steps if step[0] == "tie"], list(struck_ties(web)))
            self.assertEqual(sorted(step[1:3] for step in steps if step[0] == "split"), sorted(thin + [tie[::-1] for tie in thin]))
            self.assertIs(steps == (), is_wheel_web(web))

    def test_values_that_are_no_spare_steps(self):
        for web in (PRISM, FIVE, WHEEL):
            right = spare_steps(web)
            for value in ODD + ODD_TUPLES + (WHEEL, right, ("tie", "a", "z"), ("tie", "b", "a"), ("split", "a", "b", ("c", "d"))):
                self.assertIs(is_spare_step(web, value), False)
            for step in right[:1] + (("tie", "a", "b"), ("split", "a", "d", ("e", "f"))):
                for value in bent(step):
                    self.assertIs(is_spare_step(web, value), is_in(value, right), value)
        self.assertIs(is_spare_step(PRISM, ("tie", "a", "b")), False)
        self.assertIs(is_spare_step(PRISM, ("split", "d", "a", ("b", "c"))), True)


class LeanTest(unittest.TestCase):
    def test_lean_webs(self):
        for web in HELD + LEAN_BY_THREE[:3]:
            found = lean_web(web)
            self.assertTrue(is_lean_by_force(web, found))
            self.assertIs(is_lean_within(web, found), True)
            self.assertIs(is_lean(found), True)
            self.assertEqual(lean_web(found), found)
        for web in GREAT:
            self.assertIs(is_lean_within(web, lean_web(web)), True)

    def test_every_order_of_striking_is_taken(self):
        source = random.Random(15)
        for web in (FIVE, FIVE.without_tie("a", "c")) + GREATER[:8]:
            found = set()
            for _ in range(12):
                left = web
                for tie in source.sample(web.ties, len(web.ties)):
                    left = without(left, tie) if is_held_by_force(without(left, tie)) else left
                self.assertIs(is_lean_within(web, left), True)
                found.add(left.ties)
            self.assertTrue(found)

    def test_all_webs_within(self):
        for web in (FIVE, FIVE.without_tie("d", "e"), WHEEL, FOUR):
            for value in all_webs(web.places):
                self.assertIs(is_lean_within(web, value), is_lean_by_force(web, value))

    def test_values_that_are_no_lean_webs(self):
        for value in NOT_WEBS + (FOUR, FIVE, PRISM, GLUED, WHEEL, WHEEL.renamed(dict(zip("abcdh", "vwxyz"))), WHEEL.without_tie("a", "b")):
            self.assertIs(is_lean_within(FIVE, value), False)
        self.assertIs(is_lean_within(FIVE.without_tie("a", "b"), WHEEL.renamed(dict(zip("abcdh", "acbde")))), True)
        self.assertIs(is_lean_within(FIVE.without_tie("a", "b"), WHEEL.renamed(dict(zip("abcdh", "abcde")))), False)

    def test_places_with_three_ties(self):
        for web in (FOUR, WHEEL, PRISM) + WHEELS + LEAN_BY_THREE + tuple(lean_web(web) for web in HELD + GREAT):
            few = [place for place in web.places if len(web.neighbours(place)) == 3]
            self.assertGreaterEqual(5 * len(few), 2 * len(web) + 6)
            if len(web) >= 8:
                self.assertLessEqual(len(web.ties), 3 * len(web) - 9)
            if len(web) <= 8:
                for size in range(3, len(web) + 1):
                    self.assertTrue(all(set(ring) & set(few) for ring in each_ring(web, size)))

    def test_lean_webs_of_seven_and_eight_places(self):
        self.assertEqual([(len(web), len(web.ties)) for web in LEAN_BY_THREE[1:3] + WHEELS[3:5]], [(7, 12), (8, 15), (7, 12), (8, 14)])
        for web in LEAN_BY_THREE:
            self.assertIs(is_lean(web), True)
        # With fewer places a lean web can have more ties than the bound for at least eight.
        self.assertEqual([(len(web), len(web.ties), is_lean(web)) for web in WHEELS[:3]], [(4, 6, True), (5, 8, True), (6, 10, True)])


class ErrorsTest(unittest.TestCase):
    def test_no_webs(self):
        for web in NOT_WEBS:
            for call in ALL:
                check_error(self, InvalidWeb, call, web)
            for value in (None, ("tie", "a", "b"), WHEEL, nested(8)):
                check_error(self, InvalidWeb, is_spare_step, web, value)
                check_error(self, InvalidWeb, is_lean_within, web, value)

    def test_webs_that_are_not_held(self):
        for web in SOME_WEBS + (GLUED, BOW, SINGLE, PAIR, APART, PRISM.without_tie("a", "b"), full_web(("a", "b", "c")), WHEEL.with_place("z")):
            if not is_held_by_force(web):
                for call in ALL:
                    check_error(self, InvalidOperation, call, web)
                for value in (None, ("tie", "a", "b"), WHEEL, web):
                    check_error(self, InvalidOperation, is_spare_step, web, value)
                    check_error(self, InvalidOperation, is_lean_within, web, value)

    def test_webs_are_unchanged(self):
        for web in (PRISM, FIVE):
            before = web.lines
            for call in ALL:
                self.assertEqual(call(web), call(web))
            is_lean_within(web, web)
            self.assertEqual(web.lines, before)


class MainStatementTest(unittest.TestCase):
    def test_not_each_tie_that_can_be_struck_can_be_drawn_together(self):
        # [0.22] names this as not true.
        found = [tie for web in SIX + GREATER for tie in struck_ties(web) if tie not in joined_ties(web)]
        self.assertNotEqual(found, [])

    def test_some_tie_can_be_spared(self):
        for web in HELD:
            thin = [tie for tie in joined_by_force(web) if web.common(*tie) == ()]
            self.assertIs(struck_by_force(web) == () and thin == [], is_wheel_web(web))


if __name__ == "__main__":
    unittest.main()
