"""Promises [0.12], [0.14] and stage 7: growths."""

import random
import re
import unittest
from itertools import combinations, permutations, product

from tests.force import ahead, behind, forms_of_steps, held_web_of, is_walk_to, tied
from tests.samples import APART, BOW, FIVE, FOUR, GLUED, LETTERS, NOT_SIZES, NOT_WEBS, ODD, ODD_TUPLES, PAIR, PRISM, SINGLE
from tests.samples import SOME_WEBS, WHEEL, bent, check_error, nested
from tests.test_steps import NO_STEPS
from wheelgrown.base.wheels import is_plain, wheel_web
from wheelgrown.errors import InvalidGrowth, InvalidNumber, InvalidOperation, InvalidStep, InvalidWeb
from wheelgrown.grow.growths import Growth, is_growth
from wheelgrown.grow.papers import growth_of
from wheelgrown.grow.steps import split_steps, tie_steps

WHEEL_OF_FOUR = ("h", ("a", "b", "c", "d"))
STEPS = (("split", "h", "k", ("a", "b")), ("tie", "a", "c"))
GROWTH = Growth(WHEEL_OF_FOUR, STEPS)
LONG = Growth(WHEEL_OF_FOUR, STEPS + (("tie", "b", "d"), ("split", "a", "x", ("b", "c")), ("tie", "b", "h"), ("split", "b", "y", ("h", "x"))))
BARE = Growth(("b", ("a", "c", "d")), ())
NO_WHEELS = ODD + ODD_TUPLES + (
    ("h", ("a", "b")), ("h", ("a", "c", "b")), ("h", ("a", "b", "h")), ("h", ["a", "b", "c"]), ["h", ("a", "b", "c")],
    ("h", ("a", "b", "c"), ()), (("a", "b", "c"), "h"), ("H", ("a", "b", "c")), ("h", LETTERS[:7] + LETTERS[8:17]), ("h", ("b", "c", "a")),
    (None, ("a", "b", "c")), ("h", None), ("h",), WHEEL, GROWTH,
)


def grown_at_random(source, many):
    """A growth of so many steps, drawn from a random source with a told seed."""
    growth = Growth(source.choice((WHEEL_OF_FOUR, ("b", ("a", "c", "k", "d")), ("c", ("a", "b", "e", "d", "f")))), ())
    while len(growth) < many:
        new = next(name for name in LETTERS if name not in growth.web.places)
        steps = list(tie_steps(growth.web)) + list(split_steps(growth.web, new))
        growth = growth.grown(source.choice(steps))
    return growth


DRAWN = tuple(grown_at_random(random.Random(seed), 1 + seed % 7) for seed in range(40))


class ExamplesTest(unittest.TestCase):
    def test_growth(self):
        self.assertEqual(
            [str(GROWTH), str(GROWTH.web), GROWTH(0) == WHEEL, GROWTH.spokes, GROWTH.swapped(0).steps[0], [len(web.ties) for web in GROWTH]],
            ["growth of 2 steps from 4 spokes", "web of 6 places, 10 ties", True, 4, ("tie", "a", "c"), [8, 9, 10]])

    def test_judging(self):
        self.assertEqual(
            [is_growth(PRISM, (("a", ("b", "c", "f", "e")), (("split", "a", "d", ("e", "f")),))),
             is_growth(PRISM, (("a", ("b", "c", "f", "e")), ()))],
            [True, False])


class GrowthTest(unittest.TestCase):
    def test_properties(self):
        self.assertEqual((GROWTH.wheel, GROWTH.steps, GROWTH.spokes), (WHEEL_OF_FOUR, STEPS, 4))
        self.assertEqual((BARE.wheel, BARE.steps, BARE.spokes, BARE.web, str(BARE)),
                         (("b", ("a", "c", "d")), (), 3, FOUR, "growth of 0 steps from 3 spokes"))
        with self.assertRaises(AttributeError):
            GROWTH.steps = ()

    def test_wheels_of_all_sizes(self):
        for size in range(3, 16):
            growth = Growth(("z", LETTERS[:size]), ())
            self.assertEqual((growth.spokes, len(growth.web), len(growth.web.ties)), (size, size + 1, 2 * size))
        check_error(self, InvalidGrowth, Growth, ("z", LETTERS[:16]), ())

    def test_webs_against_force(self):
        for growth in DRAWN + (GROWTH, LONG, BARE):
            webs = list(growth)
            self.assertEqual(webs[0], wheel_web(growth.wheel))
            self.assertEqual(len(webs), len(growth) + 1)
            for count, web in enumerate(webs):
                self.assertEqual((growth.web_at(count), growth(count)), (web, web))
                cut = growth.cut(count)
                self.assertEqual((cut.wheel, cut.steps, cut.web), (growth.wheel, growth.steps[:count], web))
                if count < len(growth):
                    told = behind(web, growth.steps[count])
                    self.assertEqual((list(webs[count + 1].places), list(webs[count + 1].ties)), told)
            self.assertEqual(growth.web, webs[-1])
            self.assertTrue(is_walk_to(growth.web, growth.wheel, growth.steps))
            self.assertIs(is_growth(growth.web, (growth.wheel, growth.steps)), True)

    def test_counts(self):
        for growth in (GROWTH, BARE, LONG):
            for call in (growth, growth.web_at, growth.cut):
                for count in (len(growth) + 1, -1, 10 ** 59, 10 ** 60, -10 ** 99):
                    check_error(self, InvalidNumber, call, count, value=count)
                for count in ODD + ((), (0,), "0", WHEEL):
                    if count not in (0, 1, 3) or isinstance(count, bool):
                        check_error(self, InvalidNumber, call, count, value=count)
        self.assertEqual((GROWTH.cut(0).steps, GROWTH.cut(2) == GROWTH), ((), True))

    def test_grown(self):
        self.assertEqual(BARE.grown(), BARE)
        self.assertEqual(Growth(WHEEL_OF_FOUR, ()).grown(*STEPS), GROWTH)
        self.assertEqual(GROWTH.cut(1).grown(STEPS[1]), GROWTH)
        self.assertEqual((len(GROWTH), GROWTH.steps), (2, STEPS))
        for step in NO_STEPS + STEPS:
            check_error(self, InvalidStep, GROWTH.grown, step)
            check_error(self, InvalidStep, GROWTH.grown, ("tie", "b", "d"), step)
        check_error(self, InvalidStep, GROWTH.grown, ("tie", "b", "d"), ("tie", "b", "d"))
        check_error(self, InvalidStep, GROWTH.grown, ("tie", "b", "z"), ("tie", "b", "d"))
        self.assertEqual(str(GROWTH.grown(("tie", "b", "d"), ("split", "a", "z", ("b", "c")))), "growth of 4 steps from 4 spokes")

    def test_no_growths(self):
        for wheel in NO_WHEELS:
            check_error(self, InvalidGrowth, Growth, wheel, ())
            check_error(self, InvalidGrowth, Growth, wheel, None)
        for steps in ODD + ODD_TUPLES + (list(STEPS), STEPS[::-1] + STEPS[:1], (STEPS,), STEPS + (None,), STEPS[0], GROWTH, iter):
            check_error(self, InvalidGrowth, Growth, WHEEL_OF_FOUR, steps)
        for step in NO_STEPS:
            check_error(self, InvalidGrowth, Growth, WHEEL_OF_FOUR, (step,))
            check_error(self, InvalidGrowth, Growth, WHEEL_OF_FOUR, STEPS + (step,))

    def test_as_many_ties_and_places_as_a_web_has(self):
        growth = Growth(("p", LETTERS[:15]), tuple(("tie", a, b) for a, b in combinations(LETTERS[:15], 2)
                                                  if (a, b) != ("a", "o") and LETTERS.index(b) - LETTERS.index(a) > 1)[:30])
        self.assertEqual((len(growth), len(growth.web), len(growth.web.ties)), (30, 16, 60))
        check_error(self, InvalidStep, growth.grown, ("tie", "g", "o"))
        check_error(self, InvalidStep, growth.cut(3).grown, ("split", "p", "z", ("a", "b")))
        check_error(self, InvalidGrowth, Growth, growth.wheel, growth.steps + (("tie", "k", "n"),))

    def test_equal_growths(self):
        for growth in DRAWN + (GROWTH, BARE):
            self.assertIs(growth == Growth(growth.wheel, growth.steps), True)
            self.assertIs(growth != Growth(growth.wheel, growth.steps), False)
        self.assertIs(GROWTH == GROWTH.swapped(0), False)
        self.assertIs(Growth(("a", ("b", "c", "d")), ()) == Growth(("b", ("a", "c", "d")), ()), False)
        for value in NOT_WEBS + (WHEEL, (WHEEL_OF_FOUR, STEPS), STEPS):
            self.assertIs(GROWTH == value, False)
            self.assertIs(GROWTH != value, True)

    def test_steps_within(self):
        self.assertTrue(all(step in GROWTH for step in STEPS))
        for value in NO_STEPS + (("tie", "b", "d"), ("tie", "c", "a"), STEPS, WHEEL, list(STEPS[1]), ("split", "h", "k", ["a", "b"])):
            self.assertIs(value in GROWTH, False)
        self.assertIs(("tie", "a", "b") in BARE, False)

    def test_iterated_twice(self):
        self.assertEqual([list(GROWTH), list(GROWTH)], [[GROWTH(0), GROWTH(1), GROWTH(2)]] * 2)


class RenamedTest(unittest.TestCase):
    def test_against_renamed_webs(self):
        source = random.Random(12)
        for growth in DRAWN + (GROWTH, LONG, BARE):
            names = dict(zip(growth.web.places, source.sample(LETTERS + ("aa", "zzzzzzzz", "ba"), len(growth.web))))
            told = growth.renamed(names)
            self.assertEqual([web for web in told],
                             [web.renamed({place: names[place] for place in web.places}) for web in growth])
            self.assertTrue(is_plain(told.wheel[1]))
            self.assertEqual((told.wheel[0], len(told)), (names[growth.wheel[0]], len(growth)))
            self.assertEqual([step[0] for step in told.steps], [step[0] for step in growth.steps])
            self.assertEqual(told.renamed({other: place for place, other in names.items()}), growth)

    def test_a_ring_is_made_plain(self):
        names = {"h": "a", "a": "z", "b": "y", "c": "b", "d": "c", "k": "k"}
        told = GROWTH.renamed(names)
        self.assertEqual(told.wheel, ("a", ("b", "c", "z", "y")))
        self.assertEqual(told.steps, (("split", "a", "k", ("y", "z")), ("tie", "b", "z")))

    def test_wrong_names(self):
        right = {place: place for place in GROWTH.web.places}
        for names in bent(right):
            if is_naming_by_force(right, names):
                self.assertEqual(len(GROWTH.renamed(names)), 2)
            else:
                check_error(self, InvalidOperation, GROWTH.renamed, names)
        for names in ({place: place for place in WHEEL.places}, {**right, "z": "z"}, {**right, "a": "b"}, {**right, "a": "A"}, (), None):
            check_error(self, InvalidOperation, GROWTH.renamed, names)


class SwappedTest(unittest.TestCase):
    def test_against_force(self):
        exchanged = 0
        for growth in DRAWN + (GROWTH, LONG):
            for index in range(len(growth) - 1):
                steps = list(growth.steps)
                steps[index], steps[index + 1] = steps[index + 1], steps[index]
                told = growth.swapped(index)
                self.assertIs(told is not None, is_walk_to(growth.web, growth.wheel, steps))
                if told is not None:
                    exchanged += 1
                    self.assertEqual((told.wheel, told.steps, told.web), (growth.wheel, tuple(steps), growth.web))
                    self.assertEqual(told.swapped(index), growth)
        self.assertGreater(exchanged, 10)

    def test_steps_that_rest_on_one_another(self):
        growth = Growth(WHEEL_OF_FOUR, (("split", "h", "k", ("a", "b")), ("tie", "c", "k"), ("tie", "a", "h")))
        self.assertIsNone(growth.swapped(0))
        self.assertEqual(growth.swapped(1).steps[1:], (("tie", "a", "h"), ("tie", "c", "k")))

    def test_indices(self):
        for growth, many in ((GROWTH, 1), (BARE, 0), (GROWTH.cut(1), 0), (LONG, 5)):
            for index in (many, many + 1, -1, -many, 10 ** 60):
                if not 0 <= index < many:
                    check_error(self, InvalidNumber, growth.swapped, index, value=index)
            for index in NOT_SIZES + (None, True, False, "0"):
                if not isinstance(index, int) or isinstance(index, bool):
                    check_error(self, InvalidNumber, growth.swapped, index, value=index)
            for index in range(many):
                growth.swapped(index)


class JudgingTest(unittest.TestCase):
    def test_all_growths_of_small_webs(self):
        # All walks back along steps from held webs, and all values with one thing bent.
        for web in (FOUR, WHEEL, PRISM, FIVE.without_tie("a", "b")):
            right = growths_by_force(web)
            self.assertEqual(len(right), len(set(right)))
            for value in right:
                self.assertIs(is_growth(web, value), True)
                self.assertIs(is_growth(FIVE, value), False)
            for value in bent(right[0]):
                self.assertIs(is_growth(web, value), is_in(value, right), value)
            for value in bent(right[-1]):
                self.assertIs(is_growth(web, value), is_in(value, right), value)

    def test_all_values_of_the_form(self):
        wheels = [(hub, ring) for hub in "abcd" for ring in permutations([x for x in "abcd" if x != hub]) if ring[1] < ring[-1]]
        wheels = [wheel for wheel in wheels if is_plain(wheel[1])]
        steps = forms_of_steps(("a", "b", "c", "d"), ("e",)) + [("tie", "a", "e"), ("tie", "d", "e")]
        web = FIVE.without_tie("a", "b").without_tie("c", "d")
        wheels += [("e", ("a", "c", "b", "d")), ("a", ("b", "c", "d", "e"))]
        found = [(wheel, row) for wheel in wheels for size in range(3) for row in product(steps, repeat=size)
                 if is_growth(web, (wheel, row))]
        self.assertEqual(found, [(("e", ("a", "c", "b", "d")), ())])
        web = FIVE.without_tie("a", "b")
        wheel = ("c", ("a", "d", "b", "e"))
        self.assertEqual([step for step in steps if is_growth(web, (wheel, (step,)))], [("tie", "d", "e")])

    def test_values_that_are_no_growths(self):
        for value in NOT_WEBS + NO_WHEELS + (GROWTH, (WHEEL_OF_FOUR, STEPS, ()), (WHEEL_OF_FOUR,), [WHEEL_OF_FOUR, STEPS],
                                             (WHEEL_OF_FOUR, list(STEPS)), (STEPS, WHEEL_OF_FOUR), (WHEEL_OF_FOUR, STEPS[:1])):
            self.assertIs(is_growth(GROWTH.web, value), False)
        self.assertIs(is_growth(GROWTH.web, (WHEEL_OF_FOUR, STEPS)), True)

    def test_webs_without_growths(self):
        for web in SOME_WEBS + (GLUED, BOW, APART, SINGLE, PAIR):
            self.assertIs(is_growth(web, (WHEEL_OF_FOUR, STEPS)), False)
            self.assertIs(is_growth(web, (WHEEL_OF_FOUR, ())), web == WHEEL)

    def test_no_webs(self):
        for web in NOT_WEBS + (GROWTH,):
            for value in (None, (WHEEL_OF_FOUR, STEPS), GROWTH, nested(8)):
                check_error(self, InvalidWeb, is_growth, web, value)


def is_naming_by_force(names, value):
    """Whether the value is a dict from just these names to different names."""
    if not isinstance(value, dict) or set(value) != set(names):
        return False
    words = [word for word in value.values() if isinstance(word, str) and re.fullmatch("[a-z]{1,8}", word)]
    return len(set(words)) == len(names)


def growths_by_force(web):
    """All growths of the web, as pairs: by all wheels, and by all steps from all webs ahead."""
    found = [(hub, ring) for hub in web.places for ring in permutations([x for x in web.places if x != hub])
             if ring[0] == min(ring) and ring[1] < ring[-1]]
    found = [(wheel, ()) for wheel in found if is_walk_to(web, wheel, ())]
    if len(web.ties) > 6:
        for step in forms_of_steps(web.places, web.places):
            other = ahead(web, step)
            if other is not None and all(len(other.neighbours(place)) > 2 for place in other.places):
                found += [(wheel, steps + (step,)) for wheel, steps in growths_by_force(other)]
    return found


def is_in(value, right):
    """Whether the value is one of these, of the same kinds throughout."""
    return any(repr(value) == repr(other) for other in right)


class StateTest(unittest.TestCase):
    def test_growths_are_unchanged(self):
        before = (GROWTH.wheel, GROWTH.steps, [web.lines for web in GROWTH])
        names = {place: place * 2 for place in GROWTH.web.places}
        kept = dict(names)
        GROWTH.renamed(names)
        GROWTH.swapped(0)
        GROWTH.grown(("tie", "b", "d"))
        check_error(self, InvalidStep, GROWTH.grown, ("tie", "a", "b"))
        check_error(self, InvalidNumber, GROWTH.cut, 3)
        self.assertEqual((names, (GROWTH.wheel, GROWTH.steps, [web.lines for web in GROWTH])), (kept, before))

    def test_held_webs_have_growths(self):
        source = random.Random(13)
        for size, many in ((6, 9), (7, 14), (9, 18), (12, 30)):
            web = held_web_of(source, size, many)
            growth = growth_of(web)
            self.assertTrue(is_walk_to(web, growth.wheel, growth.steps))
            self.assertIs(is_growth(web, (growth.wheel, growth.steps)), True)
            self.assertEqual({tied(a, b) for a, b in growth.web.ties}, set(web.ties))


if __name__ == "__main__":
    unittest.main()
