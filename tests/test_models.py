"""Promises [15.1], [15.2] and stage 15: webs within webs, fours and peelings."""

import random
import unittest
from itertools import permutations

from tests.force import all_webs, held_web_of, is_held_by_force, random_webs
from tests.force_models import are_tied_by_force, fours_by_force, is_four_by_force, is_model_by_force, is_peeling_by_force
from tests.force_models import models_by_force
from tests.force_parts import has_bar, is_loose_by_force
from tests.samples import APART, BOW, FIVE, FOUR, GLUED, LETTERS, NOT_WEBS, ODD, ODD_TUPLES, PAIR, PRISM, SINGLE, SOME_WEBS, WHEEL
from tests.samples import bent, check_error, nested
from tests.test_carried import CUBE
from tests.test_drawings import HOUSES, triangulated
from tests.test_growths import DRAWN as GROWTHS
from tests.test_growths import GROWTH, LONG, WHEEL_OF_FOUR
from tests.test_parts import BOOK, CHAIN, KITE_WEB, THETA
from tests.test_spare import GREAT, GREATER, LEAN_BY_THREE, SIX, WHEELS
from wheelgrown.base.webs import Web, full_web, ring_web
from wheelgrown.errors import InvalidGrowth, InvalidModel, InvalidWeb, TooMany
from wheelgrown.grow.growths import Growth
from wheelgrown.grow.papers import growth_of
from wheelgrown.within.models import MAX_SOUGHT, four_of, is_four, is_model, is_peeling, joined_models, model_along, model_in, peeling_of

TRIANGLE = full_web(("x", "y", "z"))
SMALL_WEBS = tuple(all_webs("a")) + tuple(all_webs("ab")) + tuple(all_webs("abc")) + tuple(all_webs("abcd"))
DRAWN = tuple(all_webs("abcde"))[::37] + tuple(random_webs(random.Random(51), 60, 5, 7))
SOUGHT = (SINGLE, PAIR, APART, TRIANGLE, FOUR, ring_web(("a", "b", "c", "d")), Web(("p", "q", "r"), (("p", "q"),)),
    Web.of_ties(("a", "b"), ("a", "c"), ("a", "d")))
MODEL = {"x": ("a", "b"), "y": ("h",), "z": ("c", "d")}
# A four in a lot of its own, behind other lots, with places that hang on it.
FAR = Web.of_ties(("a", "b"), ("e", "f"), ("w", "x"), ("x", "y")) + ring_web(("b", "c", "d")) + full_web(("m", "n", "o",
    "p")) + Web(("z",), ())


class ExamplesTest(unittest.TestCase):
    def test_models(self):
        triangle = full_web(("x", "y", "z"))
        self.assertEqual(
            [is_model(WHEEL, triangle, {"x": ("a", "b"), "y": ("h",), "z": ("c", "d")}),
             model_in(ring_web(("a", "b", "c", "d")), full_web(("p", "q", "r", "s")))],
            [True, None])
        growth = Growth(("h", ("a", "b", "c", "d")), (("split", "h", "k", ("a", "b")),))
        self.assertEqual(model_along(growth), {"a": ("a",), "b": ("b",), "c": ("c",), "d": ("d",), "h": ("h", "k")})
        self.assertEqual(joined_models(growth.web, WHEEL, triangle, model_along(growth), {"x": ("a", "b"), "y": ("h",), "z": ("c", "d")}),
                         {"x": ("a", "b"), "y": ("h", "k"), "z": ("c", "d")})

    def test_fours(self):
        self.assertEqual(
            [is_four(PRISM, (("a",), ("b",), ("c",), ("d", "e", "f"))), four_of(ring_web(("a", "b", "c"))), peeling_of(PRISM),
             is_peeling(ring_web(("a", "b", "c", "d")), ("a", "c", "b", "d"))],
            [True, None, None, True])


class ModelTest(unittest.TestCase):
    def check_model_in(self, web, small, there):
        model = model_in(web, small)
        self.assertIs(model is not None, there, (web.ties, small.ties))
        if model is not None:
            self.assertTrue(is_model_by_force(web, small, model))
            self.assertIs(is_model(web, small, model), True)
            self.assertEqual(list(model), list(small.places))

    def test_against_all_ways(self):
        for web in SMALL_WEBS[::3] + DRAWN[:40:2] + (WHEEL, KITE_WEB, BOOK, THETA):
            for small in SOUGHT:
                if len(web) <= 6 and (len(small.places) + 1) ** len(web) < 20000:
                    right = models_by_force(web, small)
                    self.check_model_in(web, small, right != [])
                    self.assertTrue(all(is_model(web, small, model) is True for model in right))

    def test_great_small_webs(self):
        for web, small, there in (
                (CUBE, FOUR, True), (CUBE, FIVE, False), (CUBE, HOUSES, False), (PRISM, WHEEL, True), (WHEEL, PRISM, False),
                (FIVE, WHEEL, True),
                (PRISM, ring_web(LETTERS[:6]), True), (HOUSES, FOUR, True), (HOUSES, PRISM, False), (HOUSES, FIVE, False),
                (CUBE, CUBE, True),
                (full_web(LETTERS[:8]), full_web(LETTERS[4:12]), True), (full_web(LETTERS[:8]), CUBE, True),
                (CUBE, full_web(LETTERS[:8]), False),
                (CUBE.without_tie("a", "b"), CUBE, False), (ring_web(LETTERS[:8]), ring_web(LETTERS[:5]), True),
                (ring_web(LETTERS[:5]), ring_web(LETTERS[:8]), False), (SINGLE, SINGLE, True), (SINGLE, PAIR, False), (APART, PAIR, False),
                (PAIR, APART, True), (Web(LETTERS[:8], ()), Web(LETTERS[:8], ()), True),
                (Web(LETTERS[:8], ()), Web(LETTERS[:9], ()), False),
                (full_web(LETTERS[:8]), Web(LETTERS[:16], ()), False), (FOUR, full_web(LETTERS[:11]), False)):
            self.check_model_in(web, small, there)
        self.assertEqual(model_in(SINGLE, Web(("q",), ())), {"q": ("a",)})

    def test_bars_are_models(self):
        # Five places, or three and three, are tied as a bar tells it, behind drawing ties together just if there is a bar.
        for web in DRAWN[20:] + tuple(random_webs(random.Random(52), 25, 6, 8)):
            self.assertIs(model_in(web, FIVE) is not None or model_in(web, HOUSES) is not None, has_bar(web))

    def test_spots_of_many_places(self):
        # One of the spots must have all places but two.
        web = ring_web(LETTERS[:8])
        self.check_model_in(web, TRIANGLE, True)
        self.assertIs(is_model(web, TRIANGLE, {"x": LETTERS[:6], "y": ("g",), "z": ("h",)}), True)
        great = ring_web(LETTERS[:16])
        self.assertIs(is_model(great, TRIANGLE, {"x": LETTERS[:6], "y": LETTERS[6:15], "z": ("p",)}), True)
        self.assertIs(is_model(great, TRIANGLE, {"x": LETTERS[:5], "y": LETTERS[6:15], "z": ("p",)}), False)

    def test_webs_of_eight_places_and_more(self):
        self.assertEqual(MAX_SOUGHT, 8)
        for size in (9, 12, 16):
            for small in (SINGLE, TRIANGLE, Web(LETTERS[:16], ()), ring_web(LETTERS[:size])):
                check_error(self, TooMany, model_in, ring_web(LETTERS[:size]), small, limit=8)
        self.assertIsNotNone(model_in(ring_web(LETTERS[:8]), TRIANGLE))

    def test_judging_with_one_thing_bent(self):
        for web, small, model in ((WHEEL, TRIANGLE, MODEL), (GROWTH.web, WHEEL, model_along(GROWTH)), (APART, SINGLE, {"a": ("b",)})):
            for value in bent(model):
                self.assertIs(is_model(web, small, value), is_model_by_force(web, small, value), value)

    def test_values_that_are_no_models(self):
        for value in ODD + ODD_TUPLES + NOT_WEBS + (
                WHEEL, {}, {"x": ("a",), "y": ("b",)}, {**MODEL, "w": ("z",)}, {**MODEL, "y": ("a",)}, {**MODEL, "x": ("b", "a")},
                {**MODEL, "x": ()},
                {**MODEL, "x": ("a", "c")}, {**MODEL, "x": ["a", "b"]}, {**MODEL, "y": "h"}, {**MODEL, "y": ("q",)}, tuple(MODEL.items()),
                {"x": ("a",), "y": ("c",), "z": ("b",)}, {1: ("a",), "y": ("h",), "z": ("c",)}):
            self.assertIs(is_model(WHEEL, TRIANGLE, value), False, value)
        self.assertIs(is_model(WHEEL, PAIR, {"a": ("a",), "b": ("b",)}), True)
        for more in ("c", "zz", "A", 1, None):
            self.assertIs(is_model(WHEEL, PAIR, {"a": ("a",), "b": ("b",), more: ("c",)}), False)
        self.assertIs(is_model(WHEEL, TRIANGLE, {"z": ("c", "d"), "y": ("h",), "x": ("a", "b")}), True)

    def test_no_webs(self):
        for web in NOT_WEBS:
            for value in (None, MODEL, nested(8)):
                check_error(self, InvalidWeb, is_model, web, TRIANGLE, value)
                check_error(self, InvalidWeb, is_model, WHEEL, web, value)
            check_error(self, InvalidWeb, model_in, web, TRIANGLE)
            check_error(self, InvalidWeb, model_in, WHEEL, web)
            check_error(self, InvalidWeb, model_in, ring_web(LETTERS[:9]), web)
            check_error(self, InvalidWeb, model_in, web, web)


class AlongTest(unittest.TestCase):
    def test_against_a_walk(self):
        for growth in GROWTHS + (GROWTH, LONG, Growth(WHEEL_OF_FOUR, ())):
            came_from = {place: place for place in growth(0).places}
            for step in growth.steps:
                if step[0] == "split":
                    came_from[step[2]] = came_from[step[1]]
            model = model_along(growth)
            self.assertEqual(model, {place: tuple(sorted(x for x in came_from if came_from[x] == place)) for place in growth(0).places})
            self.assertEqual(list(model), list(growth(0).places))
            self.assertTrue(is_model_by_force(growth.web, growth(0), model))
            self.assertIs(is_model(growth.web, growth(0), model), True)

    def test_growths_of_webs(self):
        for web in (FOUR, PRISM, FIVE, CUBE) + GREATER[:6] + GREAT[:1]:
            growth = growth_of(web)
            self.assertTrue(is_model_by_force(web, growth(0), model_along(growth)))

    def test_no_growths(self):
        for value in NOT_WEBS + ODD_TUPLES + ((WHEEL_OF_FOUR, ()), WHEEL_OF_FOUR, (GROWTH.wheel, GROWTH.steps)):
            check_error(self, InvalidGrowth, model_along, value)


class JoinedTest(unittest.TestCase):
    def test_against_force(self):
        source = random.Random(53)
        many = 0
        for web in GREATER[:6] + (CUBE, PRISM, GLUED) + SIX[:4]:
            for middle in (WHEEL, FOUR, ring_web(LETTERS[:5]), KITE_WEB):
                outer = model_in(web, middle) if len(web) <= 8 else None
                for small in SOUGHT:
                    inner = model_in(middle, small)
                    if outer is not None and inner is not None:
                        many += 1
                        names = dict(zip(small.places, source.sample(LETTERS, len(small))))
                        told = joined_models(web, middle, small.renamed(names), outer, {names[x]: inner[x] for x in inner})
                        self.assertEqual(list(told), sorted(names.values()))
                        self.assertTrue(is_model_by_force(web, small.renamed(names), told))
                        for place in small.places:
                            self.assertEqual(set(told[names[place]]), {x for y in inner[place] for x in outer[y]})
        self.assertGreater(many, 100)

    def test_along_growths(self):
        for growth in GROWTHS[:20]:
            many = len(growth) // 2
            first, later = growth.cut(many), growth
            whole = model_along(later)
            middle = {place: (place,) for place in first.web.places}
            told = joined_models(first.web, first.web, first(0), middle, model_along(first))
            self.assertEqual(told, model_along(first))
            self.assertTrue(all(set(told[place]) <= set(whole[place]) for place in told))

    def test_no_models(self):
        outer = model_along(GROWTH)
        right = (GROWTH.web, WHEEL, TRIANGLE, outer, MODEL)
        self.assertEqual(joined_models(*right), {"x": ("a", "b"), "y": ("h", "k"), "z": ("c", "d")})
        for value in NOT_WEBS:
            for index in range(3):
                row = list(right)
                row[index] = value
                check_error(self, InvalidWeb, joined_models, *row)
                check_error(self, InvalidWeb, joined_models, *row[:3], None, None)
            for index in (3, 4):
                row = list(right)
                row[index] = value
                check_error(self, InvalidModel, joined_models, *row)
        for value in bent(MODEL):
            if not is_model_by_force(WHEEL, TRIANGLE, value):
                check_error(self, InvalidModel, joined_models, *right[:4], value)
        for value in bent(outer):
            if not is_model_by_force(GROWTH.web, WHEEL, value):
                check_error(self, InvalidModel, joined_models, *right[:3], value, MODEL)

    def test_what_is_passed_is_unchanged(self):
        outer, inner = model_along(GROWTH), dict(MODEL)
        told = joined_models(GROWTH.web, WHEEL, TRIANGLE, outer, inner)
        told["x"] = ()
        told.clear()
        self.assertEqual((outer, inner), (model_along(GROWTH), MODEL))
        model = model_in(WHEEL, TRIANGLE)
        model.clear()
        self.assertEqual(model_in(WHEEL, TRIANGLE), model_in(WHEEL, TRIANGLE))
        model_along(GROWTH).clear()
        self.assertEqual(len(model_along(GROWTH)), 5)


class FourTest(unittest.TestCase):
    def check_one_of_both(self, web):
        four, order = four_of(web), peeling_of(web)
        self.assertIs(four is None, order is not None, web.ties)
        self.assertIs(four is None, is_loose_by_force(web))
        if four is not None:
            self.assertTrue(is_four_by_force(web, four), (web.ties, four))
            self.assertIs(is_four(web, four), True)
        else:
            self.assertTrue(is_peeling_by_force(web, order), (web.ties, order))
            self.assertIs(is_peeling(web, order), True)

    def test_just_one_of_both(self):
        webs = SMALL_WEBS + tuple(all_webs("abcde"))[::2] + tuple(all_webs("abcdef"))[::211] + DRAWN + SOME_WEBS + GREATER + GREAT
        webs += LEAN_BY_THREE + WHEELS + (BOOK, CHAIN, KITE_WEB, THETA, CUBE, HOUSES, FAR, GLUED, PRISM.without_tie("a", "b"))
        for web in webs + tuple(random_webs(random.Random(54), 60, 8, 16)):
            self.check_one_of_both(web)

    def test_held_webs_have_a_four(self):
        for web in (FOUR, WHEEL, PRISM, FIVE, CUBE) + SIX + GREATER + GREAT + WHEELS + LEAN_BY_THREE:
            self.assertIsNotNone(four_of(web))
            self.assertIsNone(peeling_of(web))
        for web in DRAWN:
            self.assertTrue(four_of(web) is not None or not is_held_by_force(web))

    def test_all_fours_are_taken(self):
        for web in (FOUR, WHEEL, FIVE, PRISM, GLUED, BOOK, KITE_WEB) + DRAWN[::4] + SIX[:3]:
            if len(web) <= 6:
                right = fours_by_force(web)
                self.assertIs(four_of(web) is not None, right != set())
                self.assertTrue(all(is_four(web, value) is True for value in right))
        self.assertEqual(fours_by_force(FOUR), {(("a",), ("b",), ("c",), ("d",))})

    def test_all_peelings_are_taken(self):
        for web in SMALL_WEBS + (BOOK, KITE_WEB, THETA, BOW, WHEEL, ring_web(LETTERS[:6]), PRISM.without_tie("a", "b")) + DRAWN[:12]:
            if len(web) <= 6:
                for order in permutations(web.places):
                    self.assertIs(is_peeling(web, order), is_peeling_by_force(web, order))

    def test_few_places(self):
        self.assertEqual([peeling_of(web) for web in (SINGLE, Web(("q",), ()))], [("a",), ("q",)])
        for web in (SINGLE, PAIR, APART, full_web(("a", "b", "c"))):
            self.assertEqual((four_of(web), sorted(peeling_of(web))), (None, list(web.places)))
            self.assertTrue(all(is_peeling(web, order) for order in permutations(web.places)))
        self.assertEqual(four_of(FOUR), (("a",), ("b",), ("c",), ("d",)))
        self.assertIsNone(four_of(FOUR.without_tie("a", "b")))

    def test_a_four_behind_other_lots(self):
        self.assertEqual(four_of(FAR), (("m",), ("n",), ("o",), ("p",)))
        self.assertTrue(all(are_tied_by_force(FAR, one, other) for one in four_of(FAR) for other in four_of(FAR) if one != other))

    def test_values_with_one_thing_bent(self):
        for web, four in ((PRISM, four_of(PRISM)), (FIVE, four_of(FIVE)), (GLUED, four_of(GLUED)),
                (PRISM, (("a",), ("b",), ("c",), ("d", "e", "f")))):
            for value in bent(four):
                self.assertIs(is_four(web, value), is_four_by_force(web, value), value)
        for web in (ring_web(("a", "b", "c", "d")), BOW, KITE_WEB):
            for value in bent(peeling_of(web)):
                self.assertIs(is_peeling(web, value), is_peeling_by_force(web, value), value)

    def test_values_of_other_kinds(self):
        for value in NOT_WEBS + ODD_TUPLES + (WHEEL, ("a", "b", "c"), (("a",), ("b",), ("c",)), (("b",), ("a",), ("c",), ("d",)),
                WHEEL.places,
                                             [("a",), ("b",), ("c",), ("d",)], (("a",), ("b",), ("c",), ("d",), ()),
                                             (("a",), ("b",), ("c",), ())):
            for web in (WHEEL, PRISM, ring_web(("a", "b", "c"))):
                self.assertIs(is_four(web, value), is_four_by_force(web, value))
                self.assertIs(is_peeling(web, value), is_peeling_by_force(web, value))

    def test_great_webs(self):
        source = random.Random(55)
        for web in (triangulated(source, 16), held_web_of(source, 16, 60), held_web_of(source, 14, 26), full_web(LETTERS[:11]),
                ring_web(LETTERS[:16])):
            self.check_one_of_both(web)

    def test_no_webs(self):
        for web in NOT_WEBS:
            check_error(self, InvalidWeb, four_of, web)
            check_error(self, InvalidWeb, peeling_of, web)
            for value in (None, ("a",), nested(8)):
                check_error(self, InvalidWeb, is_four, web, value)
                check_error(self, InvalidWeb, is_peeling, web, value)

    def test_webs_are_unchanged(self):
        for web in (PRISM, GLUED, BOW, FAR):
            before = web.lines
            self.assertEqual((four_of(web), peeling_of(web)), (four_of(web), peeling_of(web)))
            self.assertEqual(web.lines, before)


if __name__ == "__main__":
    unittest.main()
