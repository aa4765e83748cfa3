"""Promise [0.22] and stage 14: all growths of a web."""

import random
import unittest
from itertools import islice
from unittest import mock

from tests.force import ahead, forms_of_steps, held_web_of, is_held_by_force, is_walk_to
from tests.samples import APART, BOW, FIVE, FOUR, GLUED, LETTERS, NOT_WEBS, ODD, ODD_TUPLES, PAIR, PRISM, SINGLE, SOME_WEBS, WHEEL
from tests.samples import bent, check_error, nested
from tests.test_growths import GROWTH, STEPS, WHEEL_OF_FOUR, growths_by_force, is_in
from tests.test_spare import GREAT, LEAN_BY_THREE, SIX, WHEELS
from wheelgrown.base.webs import Web, full_web
from wheelgrown.base.wheels import wheels_of
from wheelgrown.count import growths
from wheelgrown.count.growths import count_growths, each_growth, growth_at, least_spokes, most_spokes, number_of
from wheelgrown.count.webs import each_held
from wheelgrown.errors import InvalidGrowth, InvalidNumber, InvalidWeb, TooMany
from wheelgrown.grow.growths import is_growth
from wheelgrown.grow.papers import growth_of

# With 498 held webs on the way back. No web was found with 499, 500 or 501.
NEARLY = Web.of_ties(*[tuple(pair) for pair in "ad ae az bc be bf bz cf cg cz dg dz eg fz".split()])
# With 502.
BEYOND = Web.of_ties(*[tuple(pair) for pair in "ad ae az be bf bz cf cg cz dg dz ef eg fz".split()])
# Some of its growths begin with four spokes, and some with five.
UNEVEN = Web.of_ties(*[tuple(pair) for pair in "ab ac ad ae af bc bd be cd cf ef".split()])
SMALL = (FOUR, WHEEL, PRISM, FIVE, UNEVEN) + tuple(each_held(LETTERS[:5]))[::5] + SIX[::9]
NOT_HELD = (GLUED, BOW, APART, SINGLE, PAIR, full_web(("a", "b", "c")), PRISM.without_tie("a", "b"), Web(LETTERS[:16], ()))
SOME = SMALL + NOT_HELD + (GROWTH.web,) + LEAN_BY_THREE[:1] + WHEELS


def held_ahead(web):
    """The last steps from held webs, ascending, each beside the web ahead: by all values that could be such steps."""
    told = [("tie", a, b) for a, b in web.ties]
    for tie in web.ties:
        told += [("split", place, new, tuple(x for x in web.neighbours(new) if x != place)) for place, new in (tie, tie[::-1])]
    others = [(step, ahead(web, step)) for step in sorted(told)]
    return [(step, other) for step, other in others if other is not None and is_held_by_force(other)]


def growths_in_order(web):
    """All growths of a web by a walk of its own: those without steps, then all by ascending last steps."""
    found = [(wheel, ()) for wheel in wheels_of(web)]
    for step, other in held_ahead(web):
        found += [(wheel, (*steps, step)) for wheel, steps in growths_in_order(other)]
    return found


def webs_back(web):
    """All held webs on the way back from a held web."""
    found = [web]
    for here in found:
        found += [other for _, other in held_ahead(here) if other not in found]
    return found


class ExamplesTest(unittest.TestCase):
    def test_numbers(self):
        self.assertEqual([count_growths(web) for web in (WHEEL, PRISM, FIVE, GLUED, full_web(("a", "b", "c", "d")))], [1, 6, 30, 0, 4])

    def test_growths(self):
        self.assertEqual(
            [list(each_growth(PRISM))[0], growth_at(FIVE, 29)[1], number_of(PRISM, list(each_growth(PRISM))[5]), most_spokes(FIVE),
             least_spokes(FIVE)],
            [(("a", ("b", "c", "f", "e")), (("split", "a", "d", ("e", "f")),)), (("tie", "b", "c"), ("tie", "d", "e")), 5, 4, 4])


class OrderTest(unittest.TestCase):
    def test_against_a_walk(self):
        for web in SMALL + (GROWTH.web,) + LEAN_BY_THREE[:1]:
            right = growths_in_order(web)
            self.assertEqual(list(each_growth(web)), right)
            self.assertEqual(count_growths(web), len(right))
            for number in range(0, len(right), 1 + len(right) // 30):
                self.assertEqual(growth_at(web, number), right[number])
                self.assertEqual(number_of(web, right[number]), number)
            check_error(self, InvalidNumber, growth_at, web, len(right), value=len(right))
            spokes = [len(ring) for (_, ring), _ in right]
            self.assertEqual((least_spokes(web), most_spokes(web)), (min(spokes), max(spokes)))

    def test_the_walk_sees_all_steps(self):
        for web in (FOUR, WHEEL, PRISM, FIVE, UNEVEN):
            forms = [(step, ahead(web, step)) for step in forms_of_steps(web.places, web.places)]
            self.assertEqual(held_ahead(web), [row for row in forms if row[1] is not None and is_held_by_force(row[1])])

    def test_all_of_them_are_growths(self):
        for web in (FOUR, WHEEL, PRISM, FIVE.without_tie("a", "b")):
            self.assertEqual(sorted(each_growth(web)), sorted(growths_by_force(web)))
            self.assertTrue(all(is_growth(web, value) for value in each_growth(web)))

    def test_webs_of_many_places(self):
        for web, many in ((NEARLY, 3), (WHEELS[3].with_tie("a", "c"), 12)):
            total = count_growths(web)
            source = random.Random(41)
            numbers = [0, total - 1] + [source.randrange(total) for _ in range(many)]
            told = [growth_at(web, number) for number in numbers]
            self.assertEqual([number_of(web, value) for value in told], numbers)
            self.assertTrue(all(is_walk_to(web, *value) for value in told))
            self.assertEqual(list(islice(each_growth(web), 5)), [growth_at(web, number) for number in range(min(5, total))])
            growth = growth_of(web)
            pair = (growth.wheel, growth.steps)
            self.assertEqual(growth_at(web, number_of(web, pair)), pair)

    def test_ascending(self):
        # First come those without steps, by wheels; the others by their last steps, and so on from the end.
        for web in SMALL:
            keys = [[(step[0], step) for step in steps[::-1]] + [("", wheel)] for wheel, steps in each_growth(web)]
            self.assertEqual(keys, sorted(keys))
            self.assertEqual(len(keys), len({str(key) for key in keys}))

    def test_wheels(self):
        self.assertEqual(list(each_growth(FOUR)), [(wheel, ()) for wheel in wheels_of(FOUR)])
        for web in WHEELS[1:]:
            self.assertEqual((count_growths(web), list(each_growth(web)), growth_at(web, 0)),
                             (1, [(wheels_of(web)[0], ())], (wheels_of(web)[0], ())))
            self.assertEqual((number_of(web, (wheels_of(web)[0], ())), least_spokes(web), most_spokes(web)),
                (0, len(web) - 1, len(web) - 1))
        self.assertEqual([number_of(FOUR, (wheel, ())) for wheel in wheels_of(FOUR)], [0, 1, 2, 3])

    def test_webs_that_are_not_held(self):
        for web in NOT_HELD:
            self.assertEqual((count_growths(web), list(each_growth(web)), least_spokes(web), most_spokes(web)), (0, [], None, None))
            for number in (0, 1, 10 ** 59):
                check_error(self, InvalidNumber, growth_at, web, number, value=number)
            check_error(self, InvalidGrowth, number_of, web, (WHEEL_OF_FOUR, ()))

    def test_only_a_few_growths(self):
        web = full_web(LETTERS[:5])
        row = each_growth(web)
        self.assertEqual([next(row), next(row)], [growth_at(web, 0), growth_at(web, 1)])
        self.assertEqual(len(list(row)), 28)


class SpokesTest(unittest.TestCase):
    def test_spokes_and_lengths_of_one_web_can_differ(self):
        # [0.22] names it as not true that they cannot.
        self.assertEqual((least_spokes(UNEVEN), most_spokes(UNEVEN)), (4, 5))
        self.assertEqual({len(steps) for _, steps in each_growth(UNEVEN)}, {1, 3})
        self.assertEqual((least_spokes(PRISM), least_spokes(WHEELS[-1])), (4, 15))


class LimitTest(unittest.TestCase):
    def test_nearly_as_many_webs_as_there_may_be(self):
        self.assertEqual(growths.MAX_WEBS, 500)
        self.assertEqual((len(webs_back(NEARLY)), len(webs_back(BEYOND))), (498, 502))
        self.assertGreater(count_growths(NEARLY), 498)
        self.check_too_many(BEYOND, 500)

    def check_too_many(self, web, limit):
        growth = growth_of(web)
        check_error(self, TooMany, count_growths, web, limit=limit)
        check_error(self, TooMany, next, each_growth(web), limit=limit)
        for number in (0, 5, 10 ** 59):
            check_error(self, TooMany, growth_at, web, number, limit=limit)
        check_error(self, TooMany, number_of, web, (growth.wheel, growth.steps), limit=limit)
        check_error(self, TooMany, least_spokes, web, limit=limit)
        check_error(self, TooMany, most_spokes, web, limit=limit)

    def test_just_as_many_webs_as_there_may_be(self):
        # No web was found with just 500, so that the limit is set to what a web has.
        for web in (FOUR, WHEEL, PRISM, FIVE, UNEVEN, NEARLY):
            many = len(webs_back(web))
            told = count_growths(web)
            with mock.patch.object(growths, "MAX_WEBS", many):
                self.assertEqual((count_growths(web), len(list(islice(each_growth(web), told)))), (told, told))
            with mock.patch.object(growths, "MAX_WEBS", many - 1):
                self.check_too_many(web, many - 1)
                self.assertEqual(count_growths(GLUED), 0)

    def test_great_webs(self):
        for web in GREAT[:1] + (full_web(LETTERS[:11]), held_web_of(random.Random(42), 10, 20)):
            self.check_too_many(web, 500)

    def test_errors_ahead_of_the_limit(self):
        for web in (BEYOND, GREAT[0]):
            for number in (-1, True, None, 10 ** 60, "0"):
                check_error(self, InvalidNumber, growth_at, web, number, value=number)
            for value in (None, (WHEEL_OF_FOUR, ()), (WHEEL_OF_FOUR, STEPS)):
                check_error(self, InvalidGrowth, number_of, web, value)


class ErrorsTest(unittest.TestCase):
    def test_no_webs(self):
        for web in NOT_WEBS:
            for call in (count_growths, least_spokes, most_spokes):
                check_error(self, InvalidWeb, call, web)
            # A generator raises its errors when its first result is asked for.
            row = each_growth(web)
            check_error(self, InvalidWeb, next, row)
            for value in (None, 0, -1, (WHEEL_OF_FOUR, ()), nested(8)):
                check_error(self, InvalidWeb, growth_at, web, value)
                check_error(self, InvalidWeb, number_of, web, value)

    def test_numbers(self):
        for web in (PRISM, WHEEL, GLUED):
            for number in ODD + ODD_TUPLES + ((), (0,), "0", WHEEL, 6, 10 ** 60 - 1, -6):
                right = isinstance(number, int) and not isinstance(number, bool) and 0 <= number < count_growths(web)
                if not right:
                    check_error(self, InvalidNumber, growth_at, web, number, value=number)

    def test_values_that_are_no_growths(self):
        right = list(each_growth(PRISM))
        for value in ODD + ODD_TUPLES + NOT_WEBS + (GROWTH, right, right[0][:1], list(right[0]), (WHEEL_OF_FOUR, ())):
            check_error(self, InvalidGrowth, number_of, PRISM, value)
        for value in bent(right[2]):
            if is_in(value, right):
                self.assertEqual(number_of(PRISM, value), right.index(value))
            else:
                check_error(self, InvalidGrowth, number_of, PRISM, value)

    def test_webs_are_unchanged(self):
        for web in SOME + SOME_WEBS:
            before = web.lines
            if len(web.ties) < 12:
                self.assertEqual((count_growths(web), least_spokes(web)), (count_growths(web), least_spokes(web)))
            self.assertEqual(web.lines, before)


if __name__ == "__main__":
    unittest.main()
