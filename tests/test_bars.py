"""Promises [0.21], [12.2], [12.3] and stage 12 without its drawings: bars and side rings."""

import random
import unittest
from itertools import combinations
from unittest import mock

from tests.force import all_webs, held_web_of, is_held_by_force, lots_without, random_webs, tied
from tests.force_bars import bare_rings_of, bars_by_force, is_bar_by_force, is_bare_by_force, side_rings_by_force
from tests.force_parts import drawings_by_force, has_bar
from tests.samples import APART, BOW, FIVE, FOUR, GLUED, LETTERS, NOT_WEBS, ODD, ODD_TUPLES, PAIR, PRISM, SINGLE, SOME_WEBS, WHEEL
from tests.samples import bent, check_error, nested
from tests.test_drawings import FOUR_BY_FOUR, HANGING, HOUSES, triangulated
from tests.test_growths import is_in
from tests.test_parts import KITE_WEB
from tests.test_spare import GREAT, GREATER, LEAN_BY_THREE, SIX, WHEELS
from wheelgrown.base.webs import Web, full_web, ring_web
from wheelgrown.count.webs import each_held
from wheelgrown.draw import bars
from wheelgrown.draw.bars import bar_of, is_bar, side_rings
from wheelgrown.draw.drawings import drawing_of, is_drawable
from wheelgrown.errors import InvalidOperation, InvalidWeb, TooMany


def lengthened(web, ties):
    """The web with a place more within each of these ties."""
    for a, b in ties:
        new = next(name for name in LETTERS if name not in web.places)
        web = web.without_tie(a, b) + Web.of_ties(tied(a, new), tied(b, new))
    return web


SIX_FULL = full_web(LETTERS[:6])
# The same bars with one place within each route, and with some.
LONG_FIVE = lengthened(FIVE, FIVE.ties)
LONG_HOUSES = lengthened(HOUSES, HOUSES.ties)
LONGER = lengthened(lengthened(FIVE, FIVE.ties[:2]), FIVE.ties[2:4])
DRAWN = tuple(random_webs(random.Random(31), 120, 5, 9))
MIXED_UP = HOUSES.renamed({"a": "f", "b": "b", "c": "d", "d": "a", "e": "e", "f": "c"})
HELD = (FOUR, WHEEL, PRISM, FIVE) + tuple(each_held(LETTERS[:5])) + SIX[::2] + GREATER[:4] + WHEELS[:4] + LEAN_BY_THREE[:2]
SIX_BY_TEN = Web.of_ties(*[(a, b) for a in LETTERS[:6] for b in LETTERS[6:16]])


def plain_rims(drawing):
    """The plain forms of the rims of a drawing of a held web."""
    return sorted(rim if rim[1] < rim[-1] else rim[:1] + rim[:0:-1] for rim in drawing.rims)


class ExamplesTest(unittest.TestCase):
    def test_wheel(self):
        self.assertEqual([side_rings(WHEEL)[0], len(side_rings(FIVE))], [("a", "b", "c", "d"), 10])

    def test_bars(self):
        self.assertEqual([bar_of(PRISM), is_bar(FIVE, ("five", FIVE.places, FIVE.ties)), bar_of(FIVE)[0]], [None, True, "five"])


class BarTest(unittest.TestCase):
    def check_one_of_both(self, web):
        bar = bar_of(web)
        self.assertIs(bar is None, drawing_of(web) is not None, web.ties)
        if bar is not None:
            self.assertTrue(is_bar_by_force(web, bar), (web.ties, bar))
            self.assertIs(is_bar(web, bar), True)

    def test_just_one_of_a_drawing_and_a_bar(self):
        webs = tuple(all_webs("abcde"))[::3] + tuple(all_webs("abcdef"))[5::211] + DRAWN + HANGING
        webs += (FIVE, HOUSES, SIX_FULL, LONG_FIVE, LONG_HOUSES, LONGER, MIXED_UP, SIX_BY_TEN, full_web(LETTERS[:11])) + GREAT
        for web in webs:
            if len(lots_without(web, ())) == 1:
                self.check_one_of_both(web)
                if len(web) <= 8:
                    self.assertIs(bar_of(web) is not None, has_bar(web))

    def test_over_all_turns_of_small_webs(self):
        webs = tuple(all_webs("a")) + tuple(all_webs("abc")) + tuple(all_webs("abcd"))[::3] + tuple(all_webs("abcde"))[7::97]
        for web in webs + (FIVE, HOUSES, HOUSES.without_tie("c", "d"), FIVE.without_tie("b", "d"), KITE_WEB, BOW):
            if web.hangs:
                self.assertIs(bar_of(web) is None, drawings_by_force(web) != [])

    def test_both_kinds(self):
        self.assertEqual(bar_of(FIVE), ("five", FIVE.places, FIVE.ties))
        self.assertEqual(bar_of(HOUSES), ("houses", (("a", "b", "c"), ("d", "e", "f")), HOUSES.ties))
        # The lesser one of the two triples stands first, and routes lead from it.
        self.assertEqual(bar_of(MIXED_UP), ("houses", (("a", "c", "e"), ("b", "d", "f")), tuple(
            (a, b) for a in ("a", "c", "e") for b in ("b", "d", "f"))))

    def test_long_routes(self):
        for web, kind, many in ((LONG_FIVE, "five", 10), (LONG_HOUSES, "houses", 9), (LONGER, "five", 4)):
            bar = bar_of(web)
            self.assertTrue(is_bar_by_force(web, bar))
            self.assertEqual((bar[0], sum(len(route) for route in bar[2])), (kind, 2 * len(bar[2]) + many))
        ring = Web.of_ties(("a", "x"), ("x", "y"), ("b", "y"))
        self.assertEqual(bar_of(FIVE.without_tie("a", "b") + ring)[2][0], ("a", "x", "y", "b"))

    def test_webs_with_more_than_a_bar(self):
        web = FIVE + Web.of_ties(("a", "x"), ("x", "y")) + ring_web(("y", "z", "w")) + Web.of_ties(("e", "v"))
        self.assertEqual(bar_of(web), ("five", FIVE.places, FIVE.ties))

    def test_great_webs(self):
        source = random.Random(32)
        for size in (9, 12, 16):
            web = triangulated(source, size)
            self.assertIsNone(bar_of(web))
            for pair in source.sample([pair for pair in combinations(web.places, 2) if pair not in web.ties], 3):
                self.check_one_of_both(web.with_tie(*pair))
        for size, many in ((16, 28), (16, 60), (13, 50)):
            self.check_one_of_both(held_web_of(source, size, many))

    def test_all_bars_are_taken(self):
        for web, many in ((FIVE, 1), (HOUSES, 1), (SIX_FULL, 76), (LONGER, 1), (HOUSES.with_tie("a", "b"), 1),
                (FIVE.without_tie("a", "b"), 0)):
            right = bars_by_force(web)
            self.assertEqual(len(right), many)
            self.assertTrue(all(is_bar(web, bar) is True for bar in right))
        for web in [web for web in DRAWN if 6 <= len(web) <= 7 and not is_drawable_or_apart(web)]:
            right = bars_by_force(web)
            self.assertNotEqual(right, [])
            for bar in right[::1 + len(right) // 40]:
                self.assertIs(is_bar(web, bar), True)

    def test_bars_with_one_thing_bent(self):
        for web, bar in ((FIVE, bar_of(FIVE)), (SIX_FULL, bars_by_force(SIX_FULL)[3]), (SIX_FULL, bars_by_force(SIX_FULL)[-1]),
                         (LONGER, bar_of(LONGER)), (MIXED_UP, bar_of(MIXED_UP))):
            for value in bent(bar):
                self.assertIs(is_bar(web, value), is_bar_by_force(web, value), value)

    def test_values_that_are_no_bars(self):
        five, houses = bar_of(FIVE), bar_of(HOUSES)
        left, right = houses[1]
        swapped = ("houses", (right, left), tuple((b, a) for b in right for a in left))
        turned = ("houses", (left, right), tuple((a, b) for b in right for a in left))
        for value in ODD + ODD_TUPLES + NOT_WEBS + (
                WHEEL, five[:2], list(five), ("houses",) + five[1:], ("five",) + houses[1:], swapped, turned,
                ("houses", (left, right), tuple(route[::-1] for route in houses[2])), ("five", five[1], five[2][::-1]),
                ("five", list(five[1]), five[2]), ("five", five[1], list(five[2])), ("houses", [left, right], houses[2]),
                ("five", five[1], tuple(map(list, five[2]))), ("five", five[1][::-1], five[2])):
            for web in (FIVE, HOUSES, SIX_FULL):
                self.assertIs(is_bar(web, value), is_bar_by_force(web, value), value)
        self.assertIs(is_bar(HOUSES, five), False)
        self.assertIs(is_bar(FIVE, houses), False)

    def test_tuples_of_other_numbers_of_places(self):
        for size in (3, 4, 6):
            places = LETTERS[:size]
            self.assertIs(is_bar(SIX_FULL, ("five", places, tuple(combinations(places, 2)))), False)
        for left, right in ((("a", "b"), ("c", "d", "e")), (("a", "b", "c"), ("d", "e")), (("a",), ("b", "c")), ((), ()),
                            (("a", "b", "c"), ("d", "e", "f", "g")), (("a", "b", "c", "d"), ("e", "f", "g")), (("a", "b"), ("c", "d"))):
            value = ("houses", (left, right), tuple((a, b) for a in left for b in right))
            self.assertIs(is_bar(full_web(LETTERS[:7]), value), False)
        # Houses with a place in common, from which a route of one place leads to itself.
        for left, right in ((("a", "b", "c"), ("a", "d", "e")), (("a", "b", "c"), ("c", "d", "e"))):
            routes = tuple((a, b) if a != b else (a,) for a in left for b in right)
            self.assertIs(is_bar(SIX_FULL, ("houses", (left, right), routes)), False)
        self.assertIs(is_bar(SIX_FULL, ("houses", (("a", "b", "c"),), ())), False)

    def test_routes_that_meet(self):
        web = SIX_FULL
        places = ("a", "b", "c", "d", "e")
        ties = list(combinations(places, 2))
        through = [("a", "f", "b")] + ties[1:]
        self.assertIs(is_bar(web, ("five", places, tuple(through))), True)
        twice = through[:-1] + [("d", "f", "e")]
        self.assertIs(is_bar(web, ("five", places, tuple(twice))), False)
        self.assertIs(is_bar(web, ("five", places, tuple([("a", "c", "b")] + ties[1:]))), False)
        self.assertIs(is_bar(web, ("five", places, tuple([("a", "f", "f", "b")] + ties[1:]))), False)
        self.assertIs(is_bar(FIVE.without_tie("a", "b"), ("five", FIVE.places, FIVE.ties)), False)

    def test_no_webs(self):
        for web in NOT_WEBS:
            check_error(self, InvalidWeb, bar_of, web)
            for value in (None, bar_of(FIVE), nested(8)):
                check_error(self, InvalidWeb, is_bar, web, value)

    def test_webs_and_values_are_unchanged(self):
        for web in (FIVE, HOUSES, LONGER, PRISM):
            before = web.lines
            self.assertEqual(bar_of(web), bar_of(web))
            self.assertEqual(web.lines, before)


def is_drawable_or_apart(web):
    return len(lots_without(web, ())) > 1 or is_drawable(web)


class SideRingsTest(unittest.TestCase):
    def test_against_force(self):
        for web in [web for web in HELD if len(web) <= 7]:
            self.assertEqual(side_rings(web), side_rings_by_force(web))

    def test_drawable_if_each_tie_is_one_of_just_two(self):
        for web in [web for web in HELD if len(web) <= 8]:
            rings = side_rings(web)
            many = {tie: 0 for tie in web.ties}
            for ring in rings:
                for pair in zip(ring, ring[1:] + ring[:1]):
                    many[tied(*pair)] += 1
            self.assertIs(set(many.values()) == {2}, is_drawable(web))
            if is_drawable(web):
                self.assertEqual(list(rings), plain_rims(drawing_of(web)))
                self.assertEqual(list(rings), plain_rims(~drawing_of(web)))

    def test_great_webs(self):
        source = random.Random(33)
        for size in (8, 11, 16):
            web = triangulated(source, size)
            self.assertEqual(list(side_rings(web)), plain_rims(drawing_of(web)))
            less = next(web.without_tie(*tie) for tie in web.ties if is_held_by_force(web.without_tie(*tie)))
            self.assertEqual(list(side_rings(less)), plain_rims(drawing_of(less)))
        for web in WHEELS:
            self.assertEqual(list(side_rings(web)), plain_rims(drawing_of(web)))
        for web in GREAT:
            self.assertTrue(all(is_bare_by_force(web, ring) and len(lots_without(web, ring)) <= 1 for ring in side_rings(web)))

    def test_bare_rings_that_part_the_web(self):
        # The ring round the place in the middle parts it from all that is outside.
        web = PRISM + full_web(("a", "b", "c", "z"))
        self.assertIn(("a", "b", "c"), bare_rings_of(web))
        self.assertNotIn(("a", "b", "c"), side_rings(web))

    def test_no_bare_ring_is_all_of_a_held_web(self):
        for web in [web for web in HELD if len(web) <= 7]:
            self.assertTrue(all(len(ring) < len(web) for ring in bare_rings_of(web)))
        self.assertEqual(side_rings(FOUR), (("a", "b", "c"), ("a", "b", "d"), ("a", "c", "d"), ("b", "c", "d")))

    def test_just_as_many_bare_rings_as_there_may_be(self):
        # No web was found with more than 675 bare rings, so that the limit is set lower here.
        self.assertEqual(len(side_rings(SIX_BY_TEN)), 675)
        self.assertEqual(bars.MAX_BARE, 3000)
        for web, many in ((SIX_BY_TEN, 675), (WHEEL, 5), (PRISM, 5), (FIVE, 10), (FOUR, 4)):
            with mock.patch.object(bars, "MAX_BARE", many):
                self.assertNotEqual(side_rings(web), ())
            with mock.patch.object(bars, "MAX_BARE", many - 1):
                check_error(self, TooMany, side_rings, web, limit=many - 1)
                check_error(self, InvalidOperation, side_rings, HOUSES.without_tie("a", "d"))
                check_error(self, InvalidWeb, side_rings, None)

    def test_no_webs_and_webs_that_are_not_held(self):
        for web in NOT_WEBS:
            check_error(self, InvalidWeb, side_rings, web)
        for web in SOME_WEBS + (GLUED, BOW, SINGLE, PAIR, APART, FOUR_BY_FOUR, full_web(("a", "b", "c")), WHEEL.with_place("z")):
            if not is_held_by_force(web):
                check_error(self, InvalidOperation, side_rings, web)

    def test_results_are_tuples_of_plain_rings(self):
        for web in HELD[:12]:
            rings = side_rings(web)
            self.assertTrue(is_in(rings, [side_rings(web)]))
            self.assertEqual(list(rings), sorted(set(rings)))
            self.assertTrue(all(ring[0] == min(ring) and ring[1] < ring[-1] for ring in rings))


if __name__ == "__main__":
    unittest.main()
