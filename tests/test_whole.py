"""Promises [0.20], [11.1] and stage 11: all of a web."""

import random
import unittest

from tests.force import all_webs, blocks_of, is_walk_to, lots_without, partings_of, random_webs, tied
from tests.force_parts import is_loose_by_force, joined_by_force, rules_broken, sides_by_force
from tests.samples import APART, BOW, FIVE, FOUR, GLUED, LETTERS, NOT_TUPLES, NOT_WEBS, ODD, ODD_TUPLES, PAIR, PRISM, SINGLE
from tests.samples import SOME_WEBS, WHEEL, bent, check_error, nested
from tests.test_growths import is_in
from tests.test_parts import CHAIN, GLUED_APART, GROWN, KITE_WEB, LONG_FOUR, THETA
from wheelgrown.base.webs import Web, full_web, ring_web
from wheelgrown.errors import InvalidPart, InvalidWeb
from wheelgrown.grow.growths import is_growth
from wheelgrown.tree.parts import PartTree
from wheelgrown.tree.whole import count_kinds, held_parts, held_web, is_loose, is_told, is_whole, joined_whole, least_changes
from wheelgrown.tree.whole import part_growths, whole_of

ALL = (whole_of, count_kinds, held_parts, part_growths, is_loose, least_changes)
THREE = full_web(("a", "b", "c"))
# Blocks of one, of two and of more places, in three lots.
MIXED = GLUED_APART + Web.of_ties(("e", "g"), ("g", "h"), ("i", "j")) + ring_web(("h", "k", "l")) + Web(("m",), ())
SAMPLES = SOME_WEBS + (MIXED, CHAIN, GLUED_APART, KITE_WEB, LONG_FOUR, THETA, THREE, PRISM.with_place("z"), full_web(("x", "y")))
SMALL_WEBS = tuple(all_webs("a")) + tuple(all_webs("ab")) + tuple(all_webs("abc")) + tuple(all_webs("abcd"))
DRAWN = tuple(all_webs("abcde"))[::19] + tuple(random_webs(random.Random(19), 60, 1, 8))
LARGE = tuple(random_webs(random.Random(20), 12, 12, 16)) + GROWN
KINDS = ("bundle", "held", "place", "ring", "tie")


def whole_by_force(web):
    """The whole, by the blocks of all sets of places; the trees are looked at elsewhere."""
    found = []
    for block in blocks_of(web):
        inner = Web(block, tuple(tie for tie in web.ties if set(tie) <= set(block)))
        tree = PartTree.of_web(inner) if len(block) > 2 else None
        found.append((block, tree.parts, tree.doors) if tree else (block, (), ()))
    return tuple(sorted(found))


def told_of(web):
    return (whole_of(web), part_growths(web), partings_of(web))


class ExamplesTest(unittest.TestCase):
    def test_whole(self):
        self.assertEqual(
            [[triple[0] for triple in whole_of(BOW)], whole_of(BOW)[2], joined_whole(whole_of(BOW)) == BOW, count_kinds(BOW)],
            [[("a", "b", "c"), ("c", "d", "e"), ("e", "f")], (("e", "f"), (), ()), True,
             {"bundle": 0, "held": 0, "place": 0, "ring": 2, "tie": 1}])

    def test_held_parts(self):
        self.assertEqual(
            [held_parts(GLUED), held_web(GLUED, ("a", "b", "e", "f")) == full_web(("a", "b", "e", "f")), is_loose(BOW),
             least_changes(GLUED), least_changes(BOW)],
            [(("a", "b", "c", "d"), ("a", "b", "e", "f")), True, True, (0, 2), (2, 0)])


class WholeTest(unittest.TestCase):
    def test_against_force(self):
        for web in SMALL_WEBS + DRAWN + tuple(web for web in SAMPLES if len(web) <= 8):
            told = whole_of(web)
            self.assertEqual(told, whole_by_force(web))
            self.assertIs(is_whole(web, told), True)
            for block, parts, doors in told:
                if len(block) > 2:
                    self.assertEqual(rules_broken(parts, doors), [])
                    inner = Web(block, tuple(tie for tie in web.ties if set(tie) <= set(block)))
                    self.assertEqual(joined_by_force(parts), inner)

    def test_joined(self):
        for web in SMALL_WEBS + DRAWN + SAMPLES + LARGE:
            told = whole_of(web)
            self.assertEqual(joined_whole(told), web)
            self.assertEqual([block for block, _, _ in told], sorted(block for block, _, _ in told))

    def test_blocks_of_one_and_of_two_places(self):
        self.assertEqual(whole_of(SINGLE), ((("a",), (), ()),))
        self.assertEqual(whole_of(PAIR), ((("a", "b"), (), ()),))
        self.assertEqual(whole_of(APART), ((("a",), (), ()), (("b",), (), ())))
        self.assertEqual(whole_of(THREE), ((("a", "b", "c"), (("ring", ("a", "b", "c"), THREE.ties),), ()),))
        self.assertEqual([triple[0] for triple in whole_of(MIXED)],
                         [("a", "b", "c", "d", "e", "f"), ("e", "g"), ("g", "h"), ("h", "k", "l"), ("i", "j"), ("m",)])

    def test_bent_wholes(self):
        for web in (GLUED, BOW, KITE_WEB, SINGLE, PAIR, MIXED.without_places(("k", "l"))):
            right = whole_of(web)
            for value in bent(right):
                self.assertIs(is_whole(web, value), is_in(value, [right]), value)
                if not is_in(value, [right]):
                    try:
                        other = joined_whole(value)
                    except InvalidPart:
                        continue
                    self.assertEqual(repr(whole_of(other)), repr(value))

    def test_true_is_no_index(self):
        (block, parts, doors), = whole_of(GLUED)
        self.assertEqual(doors, ((("a", "b"), 0, True), (("a", "b"), 0, 2)))
        for wrong in (((("a", "b"), 0, True), (("a", "b"), 0, 2)), ((("a", "b"), False, 1), (("a", "b"), 0, 2))):
            self.assertIs(is_whole(GLUED, ((block, parts, wrong),)), False)
            check_error(self, InvalidPart, joined_whole, ((block, parts, wrong),))
            self.assertIs(is_told(GLUED, (((block, parts, wrong),),) + told_of(GLUED)[1:]), False)
        self.assertIs(is_whole(GLUED, ((block, parts, doors),)), True)

    def test_values_that_are_no_wholes(self):
        tree = PartTree.of_web(GLUED)
        (block, parts, doors), = whole_of(GLUED)
        wrong = NOT_WEBS + (
            (), (SINGLE,), ((("a", "b"), parts, doors),), (block, parts, doors), [(block, parts, doors)], ([block, parts, doors],),
            ((block, parts),), ((block, parts, doors, ()),), ((block, (), ()),), ((list(block), parts, doors),), tree, (tree,),
            ((block[:5], parts, doors),), ((block, parts, doors), (block, parts, doors)), ((block, parts, doors), (("z",), (), ()), (("y",), (), ())),
            ((("b", "a"), (), ()),), ((("a", "b"), [], ()),), ((("a", "b"), (), None),), (((), (), ()),), ((("a",), (), ()), ((), (), ())),
            ((("a", "A"), (), ()),), ((("a",), (), ()), (("a", "b"), (), ())), ((("a", "b"), (), ()), (("a", "c"), (), ()), (("b", "c"), (), ())),
            ((("a",), parts, doors),), ((None, (), ()),), ((("a", "b", "c"), (), ()),),
        )
        for value in wrong:
            self.assertIs(is_whole(GLUED, value), False)
            self.assertIs(is_whole(SINGLE, value), False)
            check_error(self, InvalidPart, joined_whole, value)

    def test_wholes_of_more_places_and_ties_than_a_web_has(self):
        many = tuple(((name,), (), ()) for name in LETTERS[:17])
        check_error(self, InvalidPart, joined_whole, many)
        self.assertEqual(joined_whole(many[:16]), Web(LETTERS[:16], ()))
        eight = full_web(LETTERS[:8])
        more = full_web(LETTERS[7:16])
        value = tuple((web.places, (("held", web.places, web.ties),), ()) for web in (eight, more))
        self.assertEqual(len(eight.ties) + len(more.ties), 64)
        check_error(self, InvalidPart, joined_whole, value)
        less = more.without_tie("i", "j").without_tie("i", "k").without_tie("i", "l").without_tie("j", "k")
        value = (value[0], (less.places, (("held", less.places, less.ties),), ()))
        self.assertEqual(joined_whole(value), eight + less)

    def test_blocks_that_are_one(self):
        # Two blocks with two common places are none.
        value = tuple((web.places, (("held", web.places, web.ties),), ()) for web in (FOUR, full_web(("a", "b", "e", "f"))))
        check_error(self, InvalidPart, joined_whole, value)
        value = tuple((web.places, (("held", web.places, web.ties),), ()) for web in (FOUR, full_web(("d", "e", "f", "g"))))
        self.assertEqual(joined_whole(value), FOUR + full_web(("d", "e", "f", "g")))
        check_error(self, InvalidPart, joined_whole, value[::-1])


class KindsTest(unittest.TestCase):
    def test_against_the_whole(self):
        for web in SMALL_WEBS + DRAWN + SAMPLES + LARGE:
            told = whole_of(web)
            kinds = [part[0] for _, parts, _ in told for part in parts]
            sizes = [len(block) for block, _, _ in told]
            right = {kind: kinds.count(kind) for kind in KINDS}
            right.update(place=sizes.count(1), tie=sizes.count(2))
            self.assertEqual(list(count_kinds(web).items()), [(kind, right[kind]) for kind in KINDS])
            self.assertEqual(least_changes(web), (len(told) - len(lots_without(web, ())), sum(len(doors) for _, _, doors in told)))

    def test_kinds_of_some_webs(self):
        told = [tuple(count_kinds(web).values()) for web in (GLUED, GLUED_APART, THETA, MIXED, SINGLE, PAIR, APART, CHAIN)]
        self.assertEqual(told, [(1, 2, 0, 0, 0), (0, 2, 0, 0, 0), (1, 0, 0, 3, 0), (0, 2, 1, 1, 3), (0, 0, 1, 0, 0), (0, 0, 0, 0, 1),
                                (0, 0, 2, 0, 0), (1, 3, 0, 1, 0)])

    def test_what_is_returned_is_not_shared(self):
        count_kinds(GLUED)["held"] = 9
        part_growths(GLUED).clear()
        self.assertEqual((count_kinds(GLUED)["held"], len(part_growths(GLUED))), (2, 2))

    def test_least_changes(self):
        one = (SINGLE, PAIR, THREE, ring_web(LETTERS[:9]), FOUR, WHEEL, PRISM, FIVE)
        self.assertEqual({least_changes(web) for web in one}, {(0, 0)})
        for web in SMALL_WEBS + DRAWN:
            plain = len(web) == 1 or (len(web), len(web.ties)) == (2, 1) or partings_of(web) == ()
            ring = all(len(web.neighbours(place)) == 2 for place in web.places)
            self.assertIs(least_changes(web) == (0, 0) and web.hangs, web.hangs and (plain or ring))
        self.assertEqual([least_changes(web) for web in (APART, MIXED, THETA, Web(LETTERS[:16], ()), CHAIN)],
                         [(0, 0), (3, 1), (0, 3), (0, 0), (0, 4)])


class HeldPartsTest(unittest.TestCase):
    def test_against_the_whole(self):
        for web in SMALL_WEBS + DRAWN + SAMPLES + LARGE:
            right = {}
            for _, parts, doors in whole_of(web):
                for index, part in enumerate(parts):
                    if part[0] == "held":
                        right[part[1]] = Web(part[1], tuple(sides_by_force(parts, doors, index)))
            self.assertEqual(held_parts(web), tuple(sorted(right)))
            growths = part_growths(web)
            self.assertEqual(tuple(growths), tuple(sorted(right)))
            for places, part in right.items():
                self.assertEqual(held_web(web, places), part)
                self.assertTrue(is_walk_to(part, *growths[places]))
                self.assertIs(is_growth(part, growths[places]), True)
            self.assertIs(is_loose(web), right == {})
            self.assertIs(is_told(web, (whole_of(web), growths, partings_of(web))), True)

    def test_loose_webs(self):
        for web in SMALL_WEBS + DRAWN + SAMPLES + LARGE:
            self.assertIs(is_loose(web), is_loose_by_force(web))

    def test_sides_that_are_no_ties(self):
        self.assertEqual(held_web(GLUED_APART, ("a", "b", "c", "d")), FOUR)
        self.assertEqual(held_web(LONG_FOUR, ("a", "b", "c", "d")), FOUR)
        self.assertEqual(held_web(CHAIN, ("a", "b", "c", "d")), FOUR)
        self.assertEqual(held_parts(LONG_FOUR), (("a", "b", "c", "d"),))

    def test_no_held_parts(self):
        for places in NOT_TUPLES + ODD_TUPLES + ((), ("a", "b"), ("b", "a", "c", "d"), ["a", "b", "c", "d"], ("a", "b", "c", "e"), GLUED):
            check_error(self, InvalidPart, held_web, GLUED, places)
            check_error(self, InvalidPart, held_web, BOW, places)
        check_error(self, InvalidPart, held_web, THETA, ("a", "b", "c"))


class ToldTest(unittest.TestCase):
    def test_any_growths_are_taken(self):
        whole, growths, partings = told_of(GLUED)
        wheels = [(hub, tuple(place for place in ("a", "b", "c", "d") if place != hub)) for hub in "abcd"]
        for wheel in wheels:
            value = (whole, {("a", "b", "e", "f"): growths[("a", "b", "e", "f")], ("a", "b", "c", "d"): (wheel, ())}, partings)
            self.assertIs(is_told(GLUED, value), True)
        self.assertIs(is_told(GLUED, (whole, {**growths, ("a", "b", "c", "d"): (("e", ("a", "b", "f")), ())}, partings)), False)

    def test_bent_values(self):
        for web in (GLUED, BOW, SINGLE, APART, LONG_FOUR, FOUR):
            right = told_of(web)
            for value in bent(right):
                self.assertIs(is_told(web, value), self.is_right(web, value), value)

    def is_right(self, web, value):
        """Whether the value is such a triple, with any growths."""
        if not isinstance(value, tuple) or len(value) != 3 or not isinstance(value[1], dict):
            return False
        if not is_in(value[0], [whole_of(web)]) or not is_in(value[2], [partings_of(web)]):
            return False
        return tuple(sorted(value[1], key=repr)) == held_parts(web) and all(
            is_growth(held_web(web, places), growth) for places, growth in value[1].items())

    def test_values_that_are_not_told(self):
        whole, growths, partings = told_of(GLUED)
        wrong = NOT_WEBS + ODD + (
            (), (whole, growths), (whole, growths, partings, ()), [whole, growths, partings], (whole, growths, list(partings)),
            (whole, tuple(growths.items()), partings), (whole, {}, partings), (whole, growths, ()), ((), growths, partings),
            (whole, {**growths, ("a",): ()}, partings), (whole, {1: 2, None: 3}, partings), (whole, None, partings), (whole, GLUED, partings),
            (growths, whole, partings), (whole, dict.fromkeys(growths), partings), (whole, growths, partings + partings), (GLUED, growths, partings))
        for value in wrong:
            self.assertIs(is_told(GLUED, value), False)

    def test_values_are_unchanged(self):
        value = told_of(GLUED)
        kept = repr(value)
        is_told(GLUED, value)
        is_told(BOW, value)
        joined_whole(value[0])
        self.assertEqual(repr(value), kept)


class ErrorsTest(unittest.TestCase):
    def test_no_webs(self):
        for web in NOT_WEBS:
            for call in ALL:
                check_error(self, InvalidWeb, call, web)
            for value in (None, (), nested(8), ("a", "b", "c", "d")):
                check_error(self, InvalidWeb, is_whole, web, value)
                check_error(self, InvalidWeb, held_web, web, value)
                check_error(self, InvalidWeb, is_told, web, value)

    def test_renamed_webs_have_renamed_wholes(self):
        source = random.Random(21)
        for web in SAMPLES + GROWN[:20]:
            names = dict(zip(web.places, source.sample(LETTERS, len(web))))
            told = {tuple(sorted(names[place] for place in places)) for places in held_parts(web)}
            other = web.renamed(names)
            self.assertEqual((set(held_parts(other)), count_kinds(other), least_changes(other)), (told, count_kinds(web), least_changes(web)))
            for places in held_parts(web):
                part = held_web(web, places)
                self.assertEqual(set(held_web(other, tuple(sorted(names[place] for place in places))).ties),
                                 {tied(names[a], names[b]) for a, b in part.ties})


if __name__ == "__main__":
    unittest.main()
