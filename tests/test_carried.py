"""Promises [13.1], [13.2] and stage 13: drawings carried along, and dual webs."""

import random
import unittest

from tests.force import behind, held_web_of, is_held_by_force, tied
from tests.force_parts import drawings_by_force, rims_by_force
from tests.samples import BOW, FIVE, FOUR, GLUED, LETTERS, NOT_WEBS, ODD, ODD_TUPLES, PAIR, PRISM, SINGLE, WHEEL
from tests.samples import bent, check_error, nested
from tests.test_drawings import HOUSES, mirrored, triangulated
from tests.test_growths import DRAWN, GROWTH, LONG, NO_WHEELS, WHEEL_OF_FOUR
from tests.test_spare import SIX
from tests.test_steps import NO_STEPS
from wheelgrown.base.webs import Web, full_web, ring_web
from wheelgrown.base.wheels import wheel_web
from wheelgrown.count.webs import each_held, sameness
from wheelgrown.draw.carried import carried, carried_back, drawings_along, drawn_wheel, dual_drawing, dual_web, lost_at
from wheelgrown.draw.drawings import Drawing, drawing_of, is_drawable
from wheelgrown.errors import InvalidGrowth, InvalidOperation, InvalidStep, TooMany
from wheelgrown.grow.growths import Growth
from wheelgrown.grow.papers import growth_of
from wheelgrown.grow.spare import spare_steps
from wheelgrown.grow.steps import is_step, split_steps, tie_steps

FIRST = drawn_wheel(WHEEL_OF_FOUR)
SPLIT = ("split", "h", "k", ("a", "b"))
CUBE = Web.of_ties(*[(LETTERS[one], LETTERS[one + bit]) for one in range(8) for bit in (1, 2, 4) if not one & bit])
GREAT = triangulated(random.Random(34), 10)
HELD = [web for web in (FOUR, WHEEL, PRISM, FIVE.without_tie("a", "b"), CUBE, GREAT) + tuple(each_held(LETTERS[:5]))[::4] + SIX[::2]
        if is_drawable(web)]
HELD += [wheel_web(("p", LETTERS[:size])) for size in (5, 7, 15)]
PATH = Web.of_ties(("a", "b"), ("b", "c"))
NO_DRAWINGS = NOT_WEBS + ODD_TUPLES + (WHEEL, GROWTH, {"a": ("b",)}) + tuple(
    drawing_of(web) for web in (SINGLE, PAIR, PATH, BOW, GLUED, full_web(("a", "b", "c")), ring_web(LETTERS[:5]),
    WHEEL.without_tie("a", "b")))


def drawings_of(webs):
    """Drawings of webs, and their mirror images."""
    return [drawing for web in webs for drawing in (drawing_of(web), ~drawing_of(web))]


def around(turns):
    """Turns, each begun with its least neighbour."""
    return {place: turn[turn.index(min(turn)):] + turn[:turn.index(min(turn))] for place, turn in turns.items()}


def back(turns, step):
    """The turns ahead of a step, by taking out the tie, or by putting those of the new place in its stead."""
    if step[0] == "tie":
        return around({place: tuple(x for x in turn if {place, x} != set(step[1:])) for place, turn in turns.items()})
    _, place, new, moved = step
    told = {}
    for here, turn in turns.items():
        row = []
        for x in turn:
            if here == place and x == new:
                rest = turns[new] + turns[new]
                at = rest.index(place)
                row += rest[at + 1:at + len(turns[new])]
            else:
                row.append(place if x == new else x)
        if here != new:
            told[here] = tuple(row)
    return around(told)


def carried_by_force(drawing, step):
    """The drawings of the web behind the step, laid out anew, from which the way back leads to this one."""
    places, ties = behind(drawing.web, step)
    found = drawing_of(Web(tuple(places), tuple(ties)))
    if found is None:
        return []
    return [other for other in (found, ~found) if back(other.turns, step) == drawing.turns]


def steps_of(web, source, many):
    """So many steps that can be done, of both kinds."""
    ties = list(tie_steps(web))
    splits = list(split_steps(web, next(name for name in ("new", "k") if name not in web.places)))
    return source.sample(ties, min(many, len(ties))) + source.sample(splits, min(many, len(splits)))


def side_by_side(turn, moved):
    """Whether just those that are moved stand side by side in a turn, perhaps over its end."""
    return any(set((turn + turn)[at:at + len(moved)]) == set(moved) for at in range(len(turn)))


class ExamplesTest(unittest.TestCase):
    def test_carried(self):
        first = drawn_wheel(("h", ("a", "b", "c", "d")))
        self.assertEqual(
            [first.turns["h"], first.rims[0], carried(first, ("tie", "a", "c")).turns["a"],
            carried(first, ("split", "h", "k", ("a", "c")))],
            [("a", "b", "c", "d"), ("a", "b", "c", "d"), ("b", "h", "d", "c"), None])

    def test_back_and_along(self):
        later = carried(FIRST, ("split", "h", "k", ("a", "b")))
        self.assertEqual(
            [len(later), carried_back(later, ("split", "h", "k", ("a", "b"))) == FIRST, str(dual_web(FIRST)), lost_at(growth_of(FIVE)),
             lost_at(GROWTH)],
            [5, True, "web of 5 places, 8 ties", 1, None])


class WheelTest(unittest.TestCase):
    def test_wheels_of_all_sizes(self):
        for size in range(3, 16):
            ring = LETTERS[:size]
            drawing = drawn_wheel(("p", ring))
            self.assertEqual((drawing.web, drawing.turns["p"]), (wheel_web(("p", ring)), ring))
            self.assertIn(ring, drawing)
            self.assertEqual(list(drawing), rims_by_force(drawing.turns))
            self.assertEqual(sorted(map(len, drawing)), sorted([3] * size + [size]))

    def test_wheels_with_other_hubs(self):
        for wheel in (("a", ("b", "d", "c", "e")), ("b", ("a", "c", "d")), ("a", ("b", "c", "d")), ("m", ("a", "x", "b", "y", "z"))):
            drawing = drawn_wheel(wheel)
            self.assertEqual(drawing.turns[wheel[0]], wheel[1])
            self.assertEqual(drawing.web, wheel_web(wheel))
        self.assertEqual(drawn_wheel(("d", ("a", "b", "c"))).turns, {
            "a": ("b", "d", "c"), "b": ("a", "c", "d"), "c": ("a", "d", "b"), "d": ("a", "b", "c")})

    def test_no_wheels(self):
        for wheel in NO_WHEELS:
            check_error(self, InvalidGrowth, drawn_wheel, wheel)


class CarriedTest(unittest.TestCase):
    def test_against_drawings_laid_out_anew(self):
        source = random.Random(35)
        seen = {"tie": 0, "split": 0, "none": 0}
        for drawing in drawings_of(HELD):
            for step in steps_of(drawing.web, source, 8):
                right = carried_by_force(drawing, step)
                self.assertLessEqual(len(right), 1)
                told = carried(drawing, step)
                self.assertEqual([told] if told is not None else [], right)
                self.assertIs(told is None, not is_drawable(Web(*map(tuple, behind(drawing.web, step)))))
                seen["none" if told is None else step[0]] += 1
        self.assertGreater(min(seen.values()), 40, seen)

    def test_just_when_there_is_one(self):
        # [13.1]: ties between places on one rim, and splits of which the moved places stand side by side.
        source = random.Random(36)
        over_the_end = 0
        for drawing in drawings_of(HELD):
            for step in steps_of(drawing.web, source, 15):
                if step[0] == "tie":
                    right = any(step[1] in rim and step[2] in rim for rim in drawing.rims)
                else:
                    turn = drawing.turns[step[1]]
                    right = side_by_side(turn, step[3])
                    over_the_end += right and turn[0] in step[3] and turn[-1] in step[3]
                self.assertIs(carried(drawing, step) is not None, right)
        self.assertGreater(over_the_end, 10)

    def test_over_all_drawings_of_small_webs(self):
        for web in (WHEEL, FIVE.without_tie("a", "b"), FOUR):
            for turns in drawings_by_force(web):
                drawing = Drawing(web, turns)
                for step in list(tie_steps(web)) + list(split_steps(web, "n")):
                    told = carried(drawing, step)
                    after = Web(*map(tuple, behind(web, step)))
                    right = [other for other in (drawings_by_force(after) if len(after.ties) < 10 else []) if back(other, step) == turns]
                    if len(after.ties) < 10:
                        self.assertEqual([told.turns] if told else [], right)

    def test_splits_over_the_end_of_the_turn(self):
        told = carried(FIRST, ("split", "h", "k", ("a", "d")))
        self.assertEqual(told.turns, {"a": ("b", "k", "d"), "b": ("a", "c", "h"), "c": ("b", "d", "h"), "d": ("a", "k", "c"),
                                      "h": ("b", "c", "k"), "k": ("a", "h", "d")})
        self.assertIsNone(carried(FIRST, ("split", "h", "k", ("b", "d"))))

    def test_great_webs(self):
        # Sixteen places cannot be split, and a web with all ties that it can have takes no tie more.
        drawing = drawn_wheel(("p", LETTERS[:15]))
        check_error(self, InvalidStep, carried, drawing, ("split", "p", "z", ("a", "b")))
        self.assertEqual(len(carried(drawing, ("tie", "a", "h"))), 17)
        full = drawing_of(GREAT)
        self.assertTrue(all(carried(full, step) is None for step in tie_steps(GREAT)))

    def test_steps_that_cannot_be_done(self):
        for step in NO_STEPS + (("tie", "a", "b"), ("tie", "c", "a"), ("split", "h", "a", ("b", "c")), ("split", "a", "k", ("b", "d"))):
            check_error(self, InvalidStep, carried, FIRST, step)
        for step in bent(SPLIT):
            if not is_step(WHEEL, step):
                check_error(self, InvalidStep, carried, FIRST, step)
            else:
                self.assertEqual([carried(FIRST, step)], carried_by_force(FIRST, step) or [None])

    def test_no_drawings_of_held_webs(self):
        for drawing in NO_DRAWINGS:
            for step in (("tie", "a", "c"), None, nested(8)):
                check_error(self, InvalidOperation, carried, drawing, step)
                check_error(self, InvalidOperation, carried_back, drawing, step)
            check_error(self, InvalidOperation, dual_web, drawing)
            check_error(self, InvalidOperation, dual_drawing, drawing)


class BackTest(unittest.TestCase):
    def test_against_force(self):
        for drawing in drawings_of(HELD):
            for step in spare_steps(drawing.web):
                told = carried_back(drawing, step)
                self.assertEqual(told.turns, back(drawing.turns, step))
                self.assertEqual(carried(told, step), drawing)

    def test_there_and_back(self):
        source = random.Random(37)
        for drawing in drawings_of(HELD):
            for step in steps_of(drawing.web, source, 6):
                told = carried(drawing, step)
                if told is not None:
                    self.assertEqual(carried_back(told, step), drawing)

    def test_last_steps_that_are_no_spare_steps(self):
        prism = drawing_of(PRISM)
        for step in (("tie", "a", "b"), ("tie", "a", "d"), ("tie", "a", "e"), ("split", "a", "b", ("c", "e")), SPLIT):
            check_error(self, InvalidStep, carried_back, prism, step)
        for step in NO_STEPS + ODD:
            check_error(self, InvalidStep, carried_back, FIRST, step)
            check_error(self, InvalidStep, carried_back, prism, step)
        self.assertEqual(carried_back(prism, ("split", "a", "d", ("e", "f"))).web.places, ("a", "b", "c", "e", "f"))
        for step in bent(("split", "a", "d", ("e", "f"))):
            if not any(repr(step) == repr(other) for other in spare_steps(PRISM)):
                check_error(self, InvalidStep, carried_back, prism, step)


class AlongTest(unittest.TestCase):
    def check_along(self, growth):
        drawings = drawings_along(growth)
        webs = list(growth)
        self.assertIsInstance(drawings, tuple)
        self.assertEqual(drawings[0], drawn_wheel(growth.wheel))
        self.assertEqual([drawing.web for drawing in drawings], webs[:len(drawings)])
        for one, other, step in zip(drawings, drawings[1:], growth.steps):
            self.assertEqual([other], carried_by_force(one, step))
        # What is lost once is lost for ever, as ties are only put in and places only split.
        self.assertEqual([is_drawable(web) for web in webs], [True] * len(drawings) + [False] * (len(webs) - len(drawings)))
        self.assertEqual(lost_at(growth), None if len(drawings) == len(webs) else len(drawings) - 1)

    def test_drawn_growths(self):
        for growth in DRAWN + (GROWTH, LONG, Growth(WHEEL_OF_FOUR, ())):
            self.check_along(growth)

    def test_growths_of_webs(self):
        source = random.Random(38)
        for web in (FOUR, WHEEL, PRISM, FIVE, HOUSES, CUBE, GREAT, held_web_of(source, 8, 13), held_web_of(source, 16, 60)) + SIX[::9]:
            self.check_along(growth_of(web))

    def test_growths_without_steps(self):
        growth = Growth(("p", LETTERS[:15]), ())
        self.assertEqual((drawings_along(growth), lost_at(growth)), ((drawn_wheel(growth.wheel),), None))

    def test_lost_by_the_first_and_by_the_last_step(self):
        growth = Growth(WHEEL_OF_FOUR, (("split", "h", "k", ("a", "c")), ("tie", "a", "c")))
        self.assertEqual((len(drawings_along(growth)), lost_at(growth)), (1, 0))
        growth = GROWTH.grown(("tie", "b", "d"))
        self.assertEqual((len(drawings_along(growth)), lost_at(growth)), (3, 2))

    def test_no_growths(self):
        for growth in NOT_WEBS + NO_WHEELS + ((WHEEL_OF_FOUR, ()), WHEEL_OF_FOUR, FIRST):
            if growth is not GROWTH and not isinstance(growth, Growth):
                check_error(self, InvalidGrowth, drawings_along, growth)
                check_error(self, InvalidGrowth, lost_at, growth)


def dual_by_force(drawing):
    """The names of the rims, and the ties between those that have a tie of the web in common."""
    rims = rims_by_force(drawing.turns)
    names = dict(zip(rims, ["r" + letter for letter in LETTERS]))
    of_tie = {}
    for rim in rims:
        for pair in zip(rim, rim[1:] + rim[:1]):
            of_tie.setdefault(tied(*pair), []).append(names[rim])
    return names, tuple(sorted(tuple(sorted(pair)) for pair in of_tie.values()))


def rims_round(drawing, names, place):
    """The names of the rims that meet at a place, in the direction of its turn."""
    found = []
    turn = drawing.turns[place]
    for one, other in zip(turn, turn[1:] + turn[:1]):
        # A rim goes on from the place to the neighbour that stands behind the one from which it comes.
        found.append(next(names[rim] for rim in names
                          if (one, place, other) in [(rim[k - 2], rim[k - 1], rim[k]) for k in range(len(rim))]))
    return tuple(found)


class DualTest(unittest.TestCase):
    def test_against_force(self):
        for drawing in drawings_of([web for web in HELD if len(drawing_of(web)) <= 16]):
            names, ties = dual_by_force(drawing)
            web = dual_web(drawing)
            self.assertEqual((web.places, web.ties), (tuple(names.values()), ties))
            self.assertTrue(is_held_by_force(web))
            self.assertEqual(len(web.ties), len(drawing.web.ties))
            dual = dual_drawing(drawing)
            self.assertEqual(dual.web, web)
            self.assertEqual(len(dual), len(drawing.web))
            for place in drawing.web.places:
                row = rims_round(drawing, names, place)
                self.assertIn(min(row[k:] + row[:k] for k in range(len(row))), dual.rims)

    def test_the_dual_of_the_dual(self):
        for drawing in drawings_of([web for web in HELD if len(drawing_of(web)) <= 16]):
            names, _ = dual_by_force(drawing)
            dual = dual_drawing(drawing)
            rounds = {}
            for place in drawing.web.places:
                row = rims_round(drawing, names, place)
                rounds[min(row[k:] + row[:k] for k in range(len(row)))] = place
            other_names = dict(zip(dual.rims, ["r" + letter for letter in LETTERS]))
            naming = {rounds[rim]: other_names[rim] for rim in dual.rims}
            self.assertEqual(dual_web(dual), drawing.web.renamed(naming))
            again = dual_drawing(dual)
            turned = {naming[place]: tuple(naming[x] for x in turn) for place, turn in drawing.turns.items()}
            self.assertEqual(again, Drawing(again.web, turned))

    def test_just_sixteen_rims_and_more(self):
        self.assertEqual((len(drawing_of(GREAT)), len(dual_web(drawing_of(GREAT)))), (16, 16))
        self.assertEqual(dual_web(drawing_of(GREAT)).places[-1], "rp")
        self.assertEqual(len(dual_drawing(drawing_of(GREAT))), 10)
        more = drawn_wheel(("p", LETTERS[:15]))
        self.assertEqual((len(more), len(dual_web(more))), (16, 16))
        for drawing in (carried(more, ("tie", "a", "c")), drawing_of(triangulated(random.Random(39), 11)),
                        drawing_of(triangulated(random.Random(39), 16))):
            self.assertGreater(len(drawing), 16)
            check_error(self, TooMany, dual_web, drawing, limit=16)
            check_error(self, TooMany, dual_drawing, drawing, limit=16)

    def test_wheels_are_dual_to_wheels(self):
        for size in range(3, 7):
            web = wheel_web(("p", LETTERS[:size]))
            self.assertIsNotNone(sameness(dual_web(drawing_of(web)), web))
        self.assertEqual(sorted(len(rim) for rim in dual_drawing(drawing_of(CUBE))), [3] * 8)

    def test_carried_along_a_tie_the_dual_web_is_split(self):
        source = random.Random(40)
        for web in [web for web in HELD if len(web.ties) < 12]:
            drawing = drawing_of(web)
            for step in steps_of(web, source, 4):
                told = carried(drawing, step)
                if told is not None and len(told) <= 7 and len(drawing) <= 7:
                    before, after = dual_web(drawing), dual_web(told)
                    if step[0] == "tie":
                        ahead = [after.drawn_together(a, b) for a, b in after.ties if after.is_thin(a, b)]
                    else:
                        ahead = [after.without_tie(a, b) for a, b in after.ties]
                    self.assertTrue(any(sameness(before, other) is not None for other in ahead))

    def test_drawings_are_unchanged(self):
        for drawing in drawings_of([WHEEL, PRISM]):
            before = (drawing.turns, drawing.rims, drawing.web.lines)
            steps = list(tie_steps(drawing.web)) + list(split_steps(drawing.web, "k"))
            for step in steps + [None]:
                for call in (carried, carried_back):
                    try:
                        call(drawing, step)
                    except InvalidStep:
                        pass
            dual_drawing(drawing)
            dual_web(drawing)
            self.assertEqual((drawing.turns, drawing.rims, drawing.web.lines), before)
            self.assertEqual(mirrored(mirrored(drawing.turns)), drawing.turns)
            self.assertEqual(dual_drawing(drawing), dual_drawing(drawing))


if __name__ == "__main__":
    unittest.main()
