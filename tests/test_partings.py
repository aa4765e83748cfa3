"""Promises [0.9], [0.10], [4.1] and stage 4: partings, blocks and cut places."""

import random
import unittest
from itertools import combinations, permutations

from tests.force import all_webs, blocks_of, cut_places_of, is_held_by_force, lots_without, partings_of, random_webs
from tests.samples import APART, BOW, FIVE, FOUR, GLUED, LETTERS, NOT_TUPLES, NOT_WEBS, ODD_TUPLES, PAIR, PRISM, SINGLE
from tests.samples import SOME_WEBS, WHEEL, check_error, nested
from wheelgrown.base.webs import Web, full_web, ring_web
from wheelgrown.errors import InvalidPart, InvalidTie, InvalidWeb, UnknownName
from wheelgrown.part.partings import all_blocks, all_partings, block_doors, block_web, block_with, cut_places
from wheelgrown.part.partings import held_level, is_held, is_parting, least_parting

SMALL_WEBS = tuple(all_webs("a")) + tuple(all_webs("ab")) + tuple(all_webs("abc")) + tuple(all_webs("abcd"))
DRAWN = tuple(random_webs(random.Random(4), 120, 1, 8))
LARGE = tuple(random_webs(random.Random(5), 20, 12, 16))


class ExamplesTest(unittest.TestCase):
    def test_partings(self):
        self.assertEqual(
            [all_partings(GLUED), least_parting(BOW), held_level(FIVE), is_parting(BOW, ("c", "e")),
             is_held(full_web(("a", "b", "c")))],
            [(("a", "b"),), ("c",), 3, True, False])

    def test_blocks(self):
        self.assertEqual(
            [cut_places(BOW), all_blocks(BOW), block_with(BOW, "e", "d"), str(block_web(BOW, ("e", "f"))), block_doors(BOW)[:2]],
            [("c", "e"), (("a", "b", "c"), ("c", "d", "e"), ("e", "f")), ("c", "d", "e"), "web of 2 places, 1 ties",
             (("c", ("a", "b", "c")), ("c", ("c", "d", "e")))])


class PartingsTest(unittest.TestCase):
    def test_against_force(self):
        for web in SOME_WEBS + SMALL_WEBS + DRAWN + LARGE + tuple(all_webs("abcde"))[::7]:
            partings = partings_of(web)
            self.assertEqual(all_partings(web), partings)
            self.assertEqual(least_parting(web), partings[0] if partings else None)
            self.assertEqual(held_level(web), len(partings[0]) if partings else 3)
            self.assertIs(is_held(web), is_held_by_force(web))

    def test_is_parting_against_force(self):
        for web in (WHEEL, GLUED, BOW, APART, SINGLE, PAIR, ring_web(("a", "b", "c", "d"))):
            partings = partings_of(web)
            for size in range(4):
                for value in permutations(web.places, size):
                    self.assertIs(is_parting(web, value), value in partings)

    def test_small_webs(self):
        for web, level in ((SINGLE, 3), (PAIR, 3), (APART, 0), (full_web(("a", "b", "c")), 3), (Web(("a", "b", "c"), ()), 0),
                           (Web.of_ties(("a", "b"), ("b", "c")), 1), (FOUR, 3), (ring_web(("a", "b", "c", "d")), 2)):
            self.assertEqual(held_level(web), level)
            self.assertIs(is_held(web), web == FOUR)

    def test_held_webs(self):
        for web in (WHEEL, PRISM, FIVE, FOUR, full_web(LETTERS[:11])):
            self.assertEqual((all_partings(web), least_parting(web), held_level(web), is_held(web)), ((), None, 3, True))
        for web in (GLUED, BOW, APART, Web(LETTERS[:16], ()), ring_web(LETTERS[:16]), WHEEL.with_place("z")):
            self.assertIs(is_held(web), False)

    def test_webs_that_do_not_hang_together(self):
        self.assertEqual(all_partings(APART), ((),))
        self.assertEqual(least_parting(Web(("a", "b", "c"), ())), ())
        self.assertEqual(all_partings(Web(("a", "b", "c"), ())), ((), ("a",), ("b",), ("c",)))
        self.assertIs(is_parting(APART, ()), True)
        self.assertIs(is_parting(FOUR, ()), False)

    def test_values_that_are_no_partings(self):
        for value in NOT_TUPLES + ODD_TUPLES + (("b", "a"), ("a", "a"), ["a", "b"], ("a", "z"), ("a", "b", "c"), "ab", ("c", "a"), GLUED):
            self.assertIs(is_parting(GLUED, value), False)
        self.assertIs(is_parting(ring_web(LETTERS[:6]), ("a", "c", "e")), False)
        self.assertIs(is_parting(ring_web(LETTERS[:6]), ("a", "c")), True)

    def test_no_webs(self):
        for web in NOT_WEBS:
            for call in (all_partings, least_parting, held_level, is_held, cut_places, all_blocks, block_doors):
                check_error(self, InvalidWeb, call, web)
            for value in (None, (), ("a", "b"), nested(8)):
                check_error(self, InvalidWeb, is_parting, web, value)
                check_error(self, InvalidWeb, block_web, web, value)
                check_error(self, InvalidWeb, block_with, web, value, "a")


class BlocksTest(unittest.TestCase):
    def test_against_force(self):
        for web in SMALL_WEBS + DRAWN + (WHEEL, PRISM, GLUED, BOW, APART) + tuple(all_webs("abcde"))[::5]:
            self.assertEqual(cut_places(web), cut_places_of(web))
            self.assertEqual(all_blocks(web), blocks_of(web))

    def test_each_tie_is_one_of_just_one_block(self):
        for web in SOME_WEBS + DRAWN + LARGE:
            blocks = all_blocks(web)
            for a, b in web.ties:
                held = [block for block in blocks if a in block and b in block]
                self.assertEqual(len(held), 1)
                self.assertEqual((block_with(web, a, b), block_with(web, b, a)), (held[0], held[0]))

    def test_two_blocks_share_a_cut_place_at_most(self):
        for web in SOME_WEBS + DRAWN + LARGE:
            for one, other in combinations(all_blocks(web), 2):
                shared = set(one) & set(other)
                self.assertLessEqual(len(shared), 1)
                self.assertLessEqual(shared, set(cut_places(web)))

    def test_edges(self):
        self.assertEqual((cut_places(SINGLE), all_blocks(SINGLE), block_doors(SINGLE)), ((), (("a",),), ()))
        self.assertEqual((cut_places(PAIR), all_blocks(PAIR)), ((), (("a", "b"),)))
        self.assertEqual((cut_places(APART), all_blocks(APART)), ((), (("a",), ("b",))))
        path = Web.of_ties(("a", "b"), ("b", "c"), ("c", "d"))
        self.assertEqual((cut_places(path), all_blocks(path)), (("b", "c"), (("a", "b"), ("b", "c"), ("c", "d"))))
        self.assertEqual(all_blocks(Web(LETTERS[:16], ())), tuple((letter,) for letter in LETTERS[:16]))
        star = Web.of_ties(*[("a", letter) for letter in LETTERS[1:16]])
        self.assertEqual((cut_places(star), len(all_blocks(star))), (("a",), 15))

    def test_webs_of_blocks(self):
        for web in SOME_WEBS + DRAWN:
            for block in all_blocks(web):
                ties = tuple(tie for tie in web.ties if set(tie) <= set(block))
                self.assertEqual(block_web(web, block), Web(block, ties))

    def test_no_blocks(self):
        for block in NOT_TUPLES + ODD_TUPLES + ((), ("a", "b"), ("c", "b", "a"), ["a", "b", "c"], ("a", "b", "c", "d"), ("e",), BOW,
                                                ("a", "b", "z"), (("a", "b", "c"),)):
            check_error(self, InvalidPart, block_web, BOW, block)

    def test_doors_make_a_tree_of_each_lot(self):
        for web in SOME_WEBS + DRAWN + LARGE:
            doors = block_doors(web)
            blocks = all_blocks(web)
            self.assertEqual(doors, tuple(sorted((cut, block) for cut in cut_places_of(web) for block in blocks if cut in block)))
            for lot in lots_without(web, ()):
                spots = [cut for cut in cut_places(web) if cut in lot] + [block for block in blocks if block[0] in lot]
                inner = [door for door in doors if door[0] in lot]
                self.assertEqual(len(inner), len(spots) - 1)
                seen = {spots[-1]}
                for _ in spots:
                    seen |= {end for door in inner if set(door) & seen for end in door}
                self.assertEqual(seen, set(spots))

    def test_wrong_pairs(self):
        for value in NOT_TUPLES + ODD_TUPLES + ("z", ("a", "b"), ()):
            if value not in BOW.places:
                check_error(self, UnknownName, block_with, BOW, value, "a", word=value)
                check_error(self, UnknownName, block_with, BOW, "a", value, word=value)
                check_error(self, UnknownName, block_with, BOW, value, "zz", word=value)
        for a, b in (("a", "a"), ("a", "d"), ("f", "a")):
            check_error(self, InvalidTie, block_with, BOW, a, b)

    def test_webs_are_unchanged(self):
        before = (BOW.places, BOW.ties)
        for call in (all_partings, all_blocks, cut_places, block_doors, is_held):
            call(BOW)
        check_error(self, InvalidPart, block_web, BOW, ("a",))
        self.assertEqual((BOW.places, BOW.ties), before)


if __name__ == "__main__":
    unittest.main()
