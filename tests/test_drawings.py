"""Promises [0.21], [12.1] and stage 12 without its bars: drawings."""

import random
import unittest
from itertools import combinations, permutations

from tests.force import all_webs, held_web_of, is_held_by_force, lots_without, random_webs, rings_of
from tests.force_parts import all_turns, drawings_by_force, has_bar, is_drawn, rims_by_force, walk_of
from tests.samples import APART, BOW, FIVE, FOUR, GLUED, LETTERS, NOT_TUPLES, NOT_WEBS, ODD, ODD_TUPLES, PAIR, PRISM, SINGLE
from tests.samples import SOME_WEBS, WHEEL, bent, check_error, nested
from tests.test_growths import is_in
from tests.test_parts import BOOK, CHAIN, GROWN, KITE_WEB, THETA
from tests.test_spare import WHEELS
from tests.test_whole import MIXED
from wheelgrown.base.webs import Web, full_web, ring_web
from wheelgrown.base.wheels import is_bare
from wheelgrown.draw.drawings import Drawing, drawing_of, is_drawable
from wheelgrown.errors import InvalidOperation, InvalidTie, InvalidWeb, UnknownName

HOUSES = Web(LETTERS[:6], tuple((a, b) for a in "abc" for b in "def"))
PATH = Web.of_ties(("a", "b"), ("b", "c"), ("b", "d"))
FOUR_BY_FOUR = Web.of_ties(*[tuple(sorted((LETTERS[4 * row + one], LETTERS[4 * row + one + 1]))) for row in range(4) for one in range(3)],
                           *[(LETTERS[4 * row + one], LETTERS[4 * row + one + 4]) for row in range(3) for one in range(4)])
HANGING = (WHEEL, PRISM, GLUED, BOW, FOUR, SINGLE, PAIR, BOOK, CHAIN, KITE_WEB, THETA, PATH, FOUR_BY_FOUR, full_web(("a", "b", "c")),
           ring_web(LETTERS[:16]), FIVE.without_tie("a", "b"), HOUSES.without_tie("a", "d"), Web.of_ties(("a", "b"), ("c", "d"), ("b", "c")))
SMALL_WEBS = tuple(all_webs("a")) + tuple(all_webs("ab")) + tuple(all_webs("abc")) + tuple(all_webs("abcd"))
DRAWN = tuple(all_webs("abcde"))[::13] + tuple(random_webs(random.Random(22), 80, 5, 8)) + GROWN
TRUE_TURNS = {"a": ("b", "h", "d"), "b": ("c", "h", "a"), "c": ("d", "h", "b"), "d": ("a", "h", "c"), "h": ("a", "b", "c", "d")}
DRAWING = Drawing(WHEEL, TRUE_TURNS)


def triangulated(source, size):
    """A web with all ties that a drawing can have, and its turns, drawn by putting places into rims of three ties."""
    rims = [("a", "b", "c"), ("a", "c", "b")]
    for place in LETTERS[3:size]:
        a, b, c = rims.pop(source.randrange(len(rims)))
        rims += [(a, b, place), (b, c, place), (c, a, place)]
    return Web.of_ties(*sorted({tuple(sorted(pair)) for a, b, c in rims for pair in ((a, b), (b, c), (a, c))}))


def mirrored(turns):
    return {place: turn[:1] + turn[:0:-1] for place, turn in turns.items()}


class ExamplesTest(unittest.TestCase):
    def test_wheel(self):
        drawing = drawing_of(WHEEL)
        self.assertEqual([str(drawing), len(drawing.turns["h"]), (~drawing).is_like(drawing), is_drawable(FIVE)],
                         ["drawing with 5 rims", 4, True, False])

    def test_pair(self):
        pair = full_web(("a", "b"))
        self.assertEqual(Drawing(pair, {"a": ("b",), "b": ("a",)}).rims, (("a", "b"),))


class DrawingTest(unittest.TestCase):
    def check_drawing(self, drawing, web):
        """A look at a drawing by walking round all rims."""
        turns = drawing.turns
        self.assertEqual(drawing.web, web)
        self.assertEqual(tuple(turns), web.places)
        for place, turn in turns.items():
            self.assertEqual(tuple(sorted(turn)), web.neighbours(place))
            self.assertEqual(turn[:1], web.neighbours(place)[:1])
        self.assertTrue(is_drawn(web, turns))
        self.assertEqual(drawing.rims, tuple(rims_by_force(turns)))
        self.assertEqual((len(drawing), list(drawing)), (len(web.ties) - len(web.places) + 2, list(drawing.rims)))
        self.assertEqual(str(drawing), f"drawing with {len(drawing.rims)} rims")

    def test_drawings_against_force(self):
        for web in SMALL_WEBS + DRAWN + HANGING + WHEELS:
            if len(lots_without(web, ())) > 1:
                check_error(self, InvalidOperation, drawing_of, web)
                check_error(self, InvalidOperation, is_drawable, web)
            else:
                drawing = drawing_of(web)
                self.assertIs(is_drawable(web), drawing is not None)
                if len(web) <= 8:
                    self.assertIs(drawing is None, has_bar(web), web.ties)
                if drawing is not None:
                    self.check_drawing(drawing, web)

    def test_all_turns_of_small_webs(self):
        webs = SMALL_WEBS + (FIVE, HOUSES, HOUSES.without_tie("a", "d"), FIVE.without_tie("a", "b"), WHEEL, PRISM, KITE_WEB, BOW)
        for web in [web for web in webs + tuple(all_webs("abcde"))[::41] if web.hangs]:
            right = drawings_by_force(web)
            self.assertIs(is_drawable(web), right != [])
            for turns in all_turns(web):
                if turns in right:
                    self.check_drawing(Drawing(web, turns), web)
                else:
                    check_error(self, InvalidOperation, Drawing, web, turns)
            if right:
                self.assertIn(drawing_of(web).turns, right)

    def test_webs_without_drawings(self):
        for web in (FIVE, HOUSES, full_web(LETTERS[:6]), full_web(LETTERS[:11]), HOUSES.with_place("g").with_tie("a", "g"),
                    FIVE.without_tie("a", "b") + Web.of_ties(("a", "x"), ("b", "x")), held_web_of(random.Random(2), 16, 60)):
            self.assertIsNone(drawing_of(web))
            self.assertIs(is_drawable(web), False)

    def test_great_webs(self):
        source = random.Random(23)
        for size in (3, 5, 9, 14, 16):
            web = triangulated(source, size)
            self.assertEqual(len(web.ties), 3 * size - 6)
            self.check_drawing(drawing_of(web), web)
            for _ in range(4):
                less = web
                for tie in source.sample(web.ties, size // 2):
                    less = less.without_tie(*tie)
                if less.hangs:
                    self.check_drawing(drawing_of(less), less)
            for pair in [pair for pair in combinations(web.places, 2) if pair not in web.ties][:3]:
                self.assertIs(is_drawable(web.with_tie(*pair)), False)

    def test_held_webs_have_one_drawing_and_its_mirror_image(self):
        webs = [web for web in SMALL_WEBS + tuple(all_webs("abcde"))[::3] + (PRISM, HOUSES) if is_held_by_force(web)]
        for web in webs:
            right = drawings_by_force(web)
            self.assertIn(len(right), (0, 2))
            for turns in right:
                self.assertIs(drawing_of(web).is_like(Drawing(web, turns)), True)
                self.assertIn(mirrored(turns), right)
        # [0.22]: a web that hangs together whichever place is taken out can have more drawings.
        self.assertEqual(len(drawings_by_force(BOOK)), 24)

    def test_rims_of_held_webs_are_the_bare_rings_that_do_not_part_it(self):
        webs = [web for web in SMALL_WEBS + tuple(all_webs("abcde"))[::3] + (PRISM, WHEELS[2], FIVE.without_tie("a", "b"))
                if is_held_by_force(web) and is_drawable(web)]
        for web in webs:
            rings = [ring for size in range(3, len(web) + 1) for ring in rings_of(web, size)]
            right = [ring for ring in rings if is_bare(web, ring) and len(lots_without(web, ring)) <= 1]
            plain = [rim if rim[1] < rim[-1] else rim[:1] + rim[:0:-1] for rim in drawing_of(web).rims]
            self.assertEqual(sorted(plain), sorted(right))


class ClassTest(unittest.TestCase):
    def test_turns_begun_with_any_neighbour(self):
        source = random.Random(24)
        for _ in range(30):
            turns = {}
            for place in source.sample(WHEEL.places, 5):
                turn = TRUE_TURNS[place]
                at = source.randrange(len(turn))
                turns[place] = turn[at:] + turn[:at]
            drawing = Drawing(WHEEL, turns)
            self.assertEqual(drawing, DRAWING)
            self.assertEqual(list(drawing.turns.items()), [
                ("a", ("b", "h", "d")), ("b", ("a", "c", "h")), ("c", ("b", "d", "h")), ("d", ("a", "h", "c")), ("h", ("a", "b", "c", "d"))])

    def test_rims_in_one_direction(self):
        self.assertEqual(DRAWING.rims, (("a", "b", "c", "d"), ("a", "d", "h"), ("a", "h", "b"), ("b", "h", "c"), ("c", "h", "d")))
        self.assertEqual((~DRAWING).rims, (("a", "b", "h"), ("a", "d", "c", "b"), ("a", "h", "d"), ("b", "c", "h"), ("c", "d", "h")))
        self.assertEqual(Drawing(PATH, {"a": ("b",), "b": ("a", "d", "c"), "c": ("b",), "d": ("b",)}).rims, (("a", "b", "d", "b", "c", "b"),))
        self.assertEqual(Drawing(full_web(("a", "b", "c")), {"a": ("c", "b"), "b": ("a", "c"), "c": ("b", "a")}).rims,
                         (("a", "b", "c"), ("a", "c", "b")))

    def test_single_places(self):
        drawing = Drawing(SINGLE, {"a": ()})
        self.assertEqual((drawing.rims, drawing.turns, len(drawing), str(drawing)), ((("a",),), {"a": ()}, 1, "drawing with 1 rims"))
        self.assertEqual((drawing_of(SINGLE), ~drawing), (drawing, drawing))
        check_error(self, InvalidTie, drawing.rim_along, "a", "a")
        check_error(self, UnknownName, drawing.rim_along, "b", "a", word="b")

    def test_rim_along(self):
        for web in HANGING + WHEELS[:4]:
            drawing = drawing_of(web)
            turns = drawing.turns
            for one, other in web.ties:
                for a, b in ((one, other), (other, one)):
                    walk = walk_of(turns, a, b)
                    rim = drawing.rim_along(a, b)
                    self.assertEqual(rim, min(walk[k:] + walk[:k] for k in range(len(walk))))
                    self.assertIn(rim, drawing.rims)
        for value in NOT_TUPLES + ODD_TUPLES + ((), "z"):
            if value not in WHEEL.places:
                check_error(self, UnknownName, DRAWING.rim_along, value, "a", word=value)
                check_error(self, UnknownName, DRAWING.rim_along, "a", value, word=value)
                check_error(self, UnknownName, DRAWING.rim_along, value, "zz", word=value)
        for a, b in (("a", "c"), ("c", "a"), ("a", "a"), ("d", "b")):
            check_error(self, InvalidTie, DRAWING.rim_along, a, b)

    def test_mirror_images(self):
        for web in HANGING + WHEELS[:4]:
            drawing = drawing_of(web)
            other = ~drawing
            self.assertEqual(other.turns, mirrored(drawing.turns))
            self.assertEqual(~other, drawing)
            self.assertEqual(other.rims, tuple(rims_by_force(mirrored(drawing.turns))))
            self.assertTrue(drawing.is_like(other) and other.is_like(drawing) and drawing.is_like(drawing))
            self.assertIs(drawing == other, drawing.turns == mirrored(drawing.turns))

    def test_is_like(self):
        for value in NOT_WEBS + (WHEEL, TRUE_TURNS, DRAWING.rims, drawing_of(PRISM), drawing_of(WHEEL.renamed(dict(zip("abcdh", "bacdh"))))):
            self.assertIs(DRAWING.is_like(value), False)
            self.assertIs(DRAWING == value, False)
            self.assertIs(DRAWING != value, True)
        drawings = [Drawing(BOOK, turns) for turns in drawings_by_force(BOOK)]
        self.assertEqual([sum(one.is_like(other) for other in drawings) for one in drawings], [2] * len(drawings))

    def test_rims_within(self):
        for rim in DRAWING:
            self.assertIs(rim in DRAWING, True)
            for value in bent(rim):
                self.assertIs(value in DRAWING, is_in(value, DRAWING.rims), value)
        for value in NOT_WEBS + (DRAWING, DRAWING.rims, ("b", "c", "d", "a"), ("a", "d", "c", "b"), ["a", "d", "h"]):
            self.assertIs(value in DRAWING, False)

    def test_no_drawings(self):
        for turns in bent(TRUE_TURNS):
            if not self.is_right(turns):
                check_error(self, InvalidOperation, Drawing, WHEEL, turns)
            else:
                self.assertTrue(is_drawn(WHEEL, turns))
                self.assertEqual(Drawing(WHEEL, turns).web, WHEEL)
        for turns in ODD + ODD_TUPLES + (WHEEL, DRAWING, {}, {**TRUE_TURNS, "z": ()}, {**TRUE_TURNS, "a": ("b", "d", "h")}):
            check_error(self, InvalidOperation, Drawing, WHEEL, turns)
        for web, turns in ((APART, {"a": (), "b": ()}), (MIXED, {place: MIXED.neighbours(place) for place in MIXED.places}),
                           (FIVE, {place: FIVE.neighbours(place) for place in FIVE.places}), (SINGLE, {}), (SINGLE, {"a": ("a",)}),
                           (PAIR, {"a": ("b",)}), (PAIR, {"a": ("b", "b"), "b": ("a",)}), (PAIR, {"a": ["b"], "b": ["a"]}), (PAIR, {1: ("b",), "b": ("a",)})):
            check_error(self, InvalidOperation, Drawing, web, turns)

    def test_webs_that_do_not_hang_together_but_have_as_many_rims(self):
        # Each lot drawn alone counts two more places and rims than ties, but turns of no drawing can count less.
        lot = next(turns for turns in all_turns(FIVE) if len(FIVE) + len(rims_by_force(turns)) == len(FIVE.ties))
        web = FIVE + Web.of_ties(("x", "y"))
        turns = {**lot, "x": ("y",), "y": ("x",)}
        self.assertEqual(len(web) + len(rims_by_force(turns)), len(web.ties) + 2)
        check_error(self, InvalidOperation, Drawing, web, turns)

    def is_right(self, turns):
        if not isinstance(turns, dict) or set(turns) != set(WHEEL.places):
            return False
        for place, turn in turns.items():
            if not isinstance(turn, tuple) or not any(repr(turn) == repr(order) for order in permutations(WHEEL.neighbours(place))):
                return False
        return is_drawn(WHEEL, turns)

    def test_no_webs(self):
        for web in NOT_WEBS + (DRAWING,):
            for turns in ({}, None, TRUE_TURNS, nested(8)):
                check_error(self, InvalidWeb, Drawing, web, turns)
            check_error(self, InvalidWeb, drawing_of, web)
            check_error(self, InvalidWeb, is_drawable, web)
        for web in SOME_WEBS + (MIXED, APART):
            if not web.hangs:
                check_error(self, InvalidOperation, drawing_of, web)
                check_error(self, InvalidOperation, is_drawable, web)
                check_error(self, InvalidOperation, Drawing, web, {place: web.neighbours(place) for place in web.places})


class StateTest(unittest.TestCase):
    def test_turns_are_not_shared(self):
        turns = dict(TRUE_TURNS)
        drawing = Drawing(WHEEL, turns)
        turns["a"] = ("b", "d", "h")
        turns.pop("h")
        self.assertEqual(drawing, DRAWING)
        told = drawing.turns
        told["a"] = ()
        told.clear()
        self.assertEqual((drawing, drawing.turns["a"], len(drawing.turns)), (DRAWING, ("b", "h", "d"), 5))
        self.assertEqual(list(TRUE_TURNS), ["a", "b", "c", "d", "h"])

    def test_drawings_are_unchanged(self):
        before = (DRAWING.turns, DRAWING.rims, DRAWING.web.lines)
        (~DRAWING).is_like(DRAWING)
        check_error(self, InvalidTie, DRAWING.rim_along, "a", "c")
        check_error(self, InvalidOperation, Drawing, WHEEL, {})
        with self.assertRaises(AttributeError):
            DRAWING.rims = ()
        self.assertEqual((DRAWING.turns, DRAWING.rims, DRAWING.web.lines), before)
        self.assertEqual(drawing_of(WHEEL), drawing_of(WHEEL))


if __name__ == "__main__":
    unittest.main()
