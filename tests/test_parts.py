"""Promises [0.20], [10.1] to [10.4] and stage 10: the parts of a block."""

import random
import unittest
from itertools import combinations, permutations

from tests.force import all_webs, held_web_of, random_webs, tied
from tests.force_parts import have_form, is_whole_by_force, joined_by_force, parting_pairs_by_force, rules_broken, sides_by_force
from tests.samples import APART, BOW, FIVE, FOUR, GLUED, LETTERS, NOT_SIZES, NOT_TUPLES, NOT_WEBS, ODD, ODD_TUPLES, PAIR, PRISM
from tests.samples import SINGLE, SOME_WEBS, WHEEL, bent, check_error, nested
from tests.test_growths import is_in, is_naming_by_force
from wheelgrown.base.webs import Web, full_web, ring_web
from wheelgrown.errors import InvalidNumber, InvalidOperation, InvalidPart, InvalidTie, InvalidWeb, UnknownName
from wheelgrown.tree.parts import PartTree, is_tree_of, is_whole_block

KITE_WEB = ring_web(("a", "b", "c", "d", "e")).with_tie("a", "c")
# Two places that are joined by three, four and five ways, with and without a tie between them.
THETA = Web.of_ties(("a", "c"), ("a", "d"), ("a", "e"), ("b", "c"), ("b", "d"), ("b", "e"))
BOOK = Web.of_ties(("a", "b"), ("a", "c"), ("a", "d"), ("a", "e"), ("a", "f"), ("b", "c"), ("b", "d"), ("b", "e"), ("b", "f"))
GLUED_APART = GLUED.without_tie("a", "b")
# Four places that are tied, with a way of two more ties instead of one of the ties.
LONG_FOUR = Web.of_ties(("a", "c"), ("a", "d"), ("a", "e"), ("b", "c"), ("b", "d"), ("b", "e"), ("c", "d"))
# A ring of four held parts and rings, whose ties between them are gone.
CHAIN = (full_web(("a", "b", "c", "d")) + full_web(("b", "e", "f", "g")) + full_web(("g", "h", "i", "j")) +
         Web.of_ties(("a", "x"), ("j", "x"))).without_tie("a", "b").without_tie("b", "g")
LADDER = ring_web(LETTERS[:8]).with_tie("a", "d").with_tie("a", "e").with_tie("e", "h")
SAMPLES = (KITE_WEB, THETA, BOOK, GLUED, GLUED_APART, LONG_FOUR, CHAIN, LADDER, FOUR, FIVE, WHEEL, PRISM, full_web(("a", "b", "c")),
           ring_web(("a", "b", "c", "d")), ring_web(LETTERS[:16]), PRISM.without_tie("a", "d"), PRISM.without_tie("a", "b"))
SMALL_WEBS = tuple(all_webs("abc")) + tuple(all_webs("abcd")) + tuple(all_webs("abcde"))[::3]
DRAWN = tuple(web for web in random_webs(random.Random(16), 500, 5, 9) if is_whole_by_force(web))[:60]


def grown_block(source, many):
    """A whole block of rings, bundles and held parts, glued at ties that stay or fall away."""
    web = source.choice((FOUR, FIVE, full_web(("a", "b", "c")), ring_web(("a", "b", "c", "d")), WHEEL))
    for _ in range(many):
        free = [name for name in LETTERS if name not in web.places]
        a, b = source.choice(web.ties)
        more = source.choice((full_web(("a", "b", "x", "y")), full_web(("a", "b", "x")), ring_web(("a", "b", "y", "x")),
                              full_web(("a", "b", "v", "x", "y"))))
        names = {"a": a, "b": b, **dict(zip(("v", "x", "y"), source.sample(free, 3)))}
        more = more.renamed({place: names[place] for place in more.places})
        if len(web + more) > 14:
            break
        web = web + more
        less = web.without_tie(a, b)
        if source.random() < 0.6 and is_whole_by_force(less):
            web = less
    return web


GROWN = tuple(grown_block(random.Random(seed), 1 + seed % 5) for seed in range(60))
WHOLE = tuple(web for web in SMALL_WEBS if is_whole_by_force(web)) + DRAWN + GROWN + SAMPLES
KITE = PartTree.of_web(KITE_WEB)
TREES = tuple(PartTree.of_web(web) for web in (KITE_WEB, GLUED, THETA, CHAIN, FIVE, LADDER))
RING = ("ring", ("a", "b", "c"), (("a", "b"), ("a", "c"), ("b", "c")))
AB = ("a", "b")


class ExamplesTest(unittest.TestCase):
    def test_glued(self):
        glued = PartTree.of_web(GLUED)
        self.assertEqual(
            [str(glued), glued[0], glued[1][:2], glued.doors, glued.part_with("e", "b"), glued.parting_pairs],
            ["tree of 3 parts, 2 doors", ("bundle", ("a", "b"), (("a", "b"),)), ("held", ("a", "b", "c", "d")),
             ((("a", "b"), 0, 1), (("a", "b"), 0, 2)), 2, (("a", "b"),)])

    def test_kite(self):
        self.assertEqual(
            [[part[:2] for part in KITE], KITE.sides(0), KITE.beside(1), KITE.parting_pairs, len(PartTree.of_web(FIVE))],
            [[("ring", ("a", "b", "c")), ("bundle", ("a", "c")), ("ring", ("a", "c", "d", "e"))],
             (("a", "b"), ("a", "c"), ("b", "c")), (0, 2), (("a", "c"), ("a", "d"), ("c", "e")), 1])


class OfWebTest(unittest.TestCase):
    def test_each_rule_and_the_joined_web(self):
        for web in WHOLE:
            tree = PartTree.of_web(web)
            self.assertTrue(have_form(tree.parts, tree.doors), web.ties)
            self.assertEqual(rules_broken(tree.parts, tree.doors), [], web.ties)
            self.assertEqual(joined_by_force(tree.parts), web)
            self.assertEqual((tree.joined, str(tree.joined)), (web, str(web)))
            self.assertIs(is_tree_of(web, (tree.parts, tree.doors)), True)
            self.assertEqual(tree, PartTree(tree.parts, tree.doors))
            self.assertEqual(tree.parting_pairs, parting_pairs_by_force(web), web.ties)

    def test_parts_of_some_webs(self):
        told = [[part[:2] for part in PartTree.of_web(web)] for web in (THETA, GLUED_APART, LONG_FOUR, PRISM.without_tie("a", "d"))]
        self.assertEqual(told, [
            [("bundle", ("a", "b")), ("ring", ("a", "b", "c")), ("ring", ("a", "b", "d")), ("ring", ("a", "b", "e"))],
            [("held", ("a", "b", "c", "d")), ("held", ("a", "b", "e", "f"))],
            [("held", ("a", "b", "c", "d")), ("ring", ("a", "b", "e"))],
            [("ring", ("a", "b", "c")), ("bundle", ("b", "c")), ("ring", ("b", "c", "e", "f")), ("ring", ("d", "e", "f")),
             ("bundle", ("e", "f"))]])
        self.assertEqual(PartTree.of_web(THETA).doors, (((AB), 0, 1), (AB, 0, 2), (AB, 0, 3)))
        self.assertEqual(PartTree.of_web(GLUED_APART).doors, ((AB, 0, 1),))
        self.assertEqual(PartTree.of_web(CHAIN).doors, ((AB, 0, 1), (("b", "g"), 1, 2), (("g", "j"), 1, 4), (("g", "j"), 3, 4)))
        self.assertEqual([part[0] for part in PartTree.of_web(CHAIN)], ["held", "ring", "held", "held", "bundle"])

    def test_bundles_with_and_without_a_tie(self):
        self.assertEqual(PartTree.of_web(THETA)[0], ("bundle", AB, ()))
        self.assertEqual(PartTree.of_web(THETA.with_tie("a", "b"))[0], ("bundle", AB, (AB,)))
        self.assertEqual(PartTree.of_web(BOOK).sides(0), (AB,) * 5)
        self.assertEqual(PartTree.of_web(BOOK.without_tie("a", "b")).sides(0), (AB,) * 4)

    def test_held_webs_and_rings_are_one_part(self):
        for web in (FOUR, FIVE, WHEEL, PRISM, full_web(LETTERS[:11]), held_web_of(random.Random(1), 16, 40)):
            self.assertEqual(PartTree.of_web(web).parts, (("held", web.places, web.ties),))
        for size in range(3, 17):
            web = ring_web(LETTERS[:size])
            tree = PartTree.of_web(web)
            self.assertEqual((tree.parts, tree.doors), ((("ring", web.places, web.ties),), ()))
            self.assertEqual(tree.parting_pairs, tuple(pair for pair in combinations(web.places, 2) if pair not in web.ties))

    def test_the_tree_does_not_depend_on_names(self):
        source = random.Random(17)
        for web in GROWN + SAMPLES:
            names = dict(zip(web.places, source.sample(LETTERS + ("aa", "zz"), len(web))))
            tree = PartTree.of_web(web)
            told = tree.renamed(names)
            self.assertEqual(told, PartTree.of_web(web.renamed(names)))
            parts = {(kind, tuple(sorted(names[x] for x in places)), tuple(sorted(tied(names[a], names[b]) for a, b in ties)))
                     for kind, places, ties in tree}
            self.assertEqual(set(told), parts)
            self.assertEqual(sorted((door[0], told[door[1]][1], told[door[2]][1]) for door in told.doors),
                             sorted((tied(names[a], names[b]),) + tuple(sorted(tuple(sorted(names[x] for x in tree[k][1])) for k in (i, j)))
                                    for (a, b), i, j in tree.doors))

    def test_great_blocks(self):
        book = Web(LETTERS[:16], tuple(sorted([(x, y) for x in ("a", "b") for y in LETTERS[2:16]])))
        tree = PartTree.of_web(book)
        self.assertEqual((str(tree), len(tree.sides(0))), ("tree of 15 parts, 14 doors", 14))
        self.assertEqual(tree.parting_pairs, (AB,))
        self.assertEqual(rules_broken(tree.parts, tree.doors), [])

    def test_no_whole_blocks(self):
        for web in SOME_WEBS + SMALL_WEBS + tuple(random_webs(random.Random(18), 60, 1, 8)):
            whole = is_whole_by_force(web)
            self.assertIs(is_whole_block(web), whole)
            if not whole:
                check_error(self, InvalidOperation, PartTree.of_web, web)
                self.assertIs(is_tree_of(web, ((RING,), ())), False)
        for web in (SINGLE, PAIR, APART, BOW, full_web(("a", "b", "c")).with_place("z")):
            self.assertIs(is_whole_block(web), False)
            check_error(self, InvalidOperation, PartTree.of_web, web)
        for web in NOT_WEBS + (KITE,):
            check_error(self, InvalidWeb, PartTree.of_web, web)
            check_error(self, InvalidWeb, is_whole_block, web)
            for value in (None, ((RING,), ()), nested(8)):
                check_error(self, InvalidWeb, is_tree_of, web, value)


# Parts and doors, and the rules that they break. A tie of two parts is beside other rules, too.
BROKEN = (
    ([1], (("ring", ("a", "b"), (AB,)),), ()),
    ([1], (("ring", ("a", "b", "c"), (AB, ("b", "c"))),), ()),
    ([1], (("ring", ("a", "b", "c", "d"), full_web(("a", "b", "c", "d")).ties),), ()),
    ([1], (("ring", LETTERS[:6], tuple(sorted(full_web(("a", "b", "c")).ties + full_web(("d", "e", "f")).ties))),), ()),
    ([2], (("bundle", AB, (AB,)),), ()),
    ([2], (("bundle", AB, ()), ("held", ("a", "b", "c", "d"), FOUR.without_tie("a", "b").ties),
           ("held", ("a", "b", "e", "f"), full_web(("a", "b", "e", "f")).without_tie("a", "b").ties)), ((AB, 0, 1), (AB, 0, 2))),
    ([2], (("bundle", ("a", "b", "c"), RING[2]),), ()),
    ([3], (("held", ("a", "b", "c"), RING[2]),), ()),
    ([3], (("held", WHEEL.places, WHEEL.without_tie("a", "b").ties),), ()),
    ([3], (("held", ("a", "b", "c", "d"), FOUR.ties), ("ring", ("a", "b", "e"), (("a", "e"), ("b", "e")))), ((AB, 0, 1),)),
    ([3], (("held", (), ()),), ()),
    ([4], (RING, ("ring", ("d", "e", "f"), (("d", "e"), ("d", "f"), ("e", "f")))), ()),
    ([5], (("ring", ("a", "b", "c"), (("a", "c"), ("b", "c"))), ("ring", ("a", "b", "d"), (("a", "d"), ("b", "d")))), ((AB, 0, 1),)),
    ([6, 7], (("bundle", AB, (AB,)), ("held", ("a", "b", "c", "d"), FOUR.without_tie("a", "b").ties),
           ("ring", ("a", "b", "d"), (("a", "d"), ("b", "d")))), ((AB, 0, 1), (AB, 0, 2))),
    ([8], tuple([("bundle", AB, ())] + [("ring", ("a", "b", x), (("a", x), ("b", x))) for x in LETTERS[2:17]]),
     tuple((AB, 0, k) for k in range(1, 16))),
)


class RulesTest(unittest.TestCase):
    def test_each_rule_alone(self):
        for rules, parts, doors in BROKEN:
            self.assertTrue(have_form(parts, doors), parts)
            self.assertEqual(rules_broken(parts, doors), rules, parts)
            check_error(self, InvalidPart, PartTree, parts, doors)
        self.assertEqual({rules[0] for rules, _, _ in BROKEN}, {1, 2, 3, 4, 5, 6, 8})

    def test_more_places_and_ties_than_a_web_has(self):
        many = tuple([("bundle", AB, ())] + [("ring", ("a", "b", x), (("a", x), ("b", x))) for x in LETTERS[2:16]])
        doors = tuple((AB, 0, k) for k in range(1, 15))
        self.assertEqual(PartTree(many, doors).joined.places, LETTERS[:16])
        webs = [full_web(tuple(sorted(AB + LETTERS[k:k + 6]))).without_tie("a", "b") for k in (2, 8)]
        held = tuple(("held", web.places, web.ties) for web in webs)
        self.assertEqual(len(PartTree(held, ((AB, 0, 1),)).joined.ties), 54)
        more = (("bundle", AB, (AB,)),) + held
        self.assertEqual(len(PartTree(more, ((AB, 0, 1), (AB, 0, 2))).joined.ties), 55)
        self.assertEqual(rules_broken((("held", LETTERS[:11], full_web(LETTERS[:11]).ties),), ()), [])
        check_error(self, InvalidPart, PartTree, (("held", LETTERS[:11], full_web(LETTERS[:11]).ties + (("k", "l"),)),), ())
        great = [full_web(tuple(sorted(AB + LETTERS[k:k + 7]))).without_tie("a", "b") for k in (2, 9)]
        parts = tuple(("held", web.places, web.ties) for web in great)
        self.assertEqual(rules_broken(parts, ((AB, 0, 1),)), [8])
        check_error(self, InvalidPart, PartTree, parts, ((AB, 0, 1),))

    def test_common_places_but_not_by_doors(self):
        # Two rings that share a place far off from the doors between them.
        parts = (("held", ("a", "b", "c", "d"), FOUR.without_tie("a", "b").ties), ("ring", ("a", "b", "e"), (("a", "e"), ("b", "e"))))
        self.assertEqual(PartTree(parts, ((AB, 0, 1),)).joined, LONG_FOUR)
        for name in ("c", "d"):
            wrong = (parts[0], ("ring", tuple(sorted(("a", "b", name))), tuple(sorted([("a", name), ("b", name)]))))
            wrong = tuple(sorted(wrong, key=lambda part: part[1]))
            broken = rules_broken(wrong, ((AB, 0, 1),))
            self.assertTrue(6 in broken and 7 in broken)
            check_error(self, InvalidPart, PartTree, wrong, ((AB, 0, 1),))
        chain = PartTree.of_web(CHAIN)
        names = {"h": "c"}
        parts = [(kind, tuple(sorted(names.get(x, x) for x in places)), tuple(sorted(tied(names.get(a, a), names.get(b, b)) for a, b in ties)))
                 for kind, places, ties in chain]
        order = sorted(range(5), key=lambda k: parts[k][1])
        doors = tuple(sorted((pair,) + tuple(sorted((order.index(i), order.index(j)))) for pair, i, j in chain.doors))
        parts = tuple(sorted(parts, key=lambda part: part[1]))
        self.assertTrue(have_form(parts, doors))
        self.assertEqual(rules_broken(parts, doors), [7])
        check_error(self, InvalidPart, PartTree, parts, doors)

    def test_two_ways_between_parts(self):
        # Each part alone is right, and so is the number of ways by each door, but there are two of them.
        four = ("held", ("a", "b", "c", "d"), FOUR.ties[1:-1])
        seven = ("held", LETTERS[:7], tuple((a, b) for a in "abcd" for b in "efg"))
        doors = ((AB, 0, 1), (("c", "d"), 0, 1))
        self.assertEqual(rules_broken((four, seven), doors), [4, 7])
        check_error(self, InvalidPart, PartTree, (four, seven), doors)
        away = ("held", ("h", "i", "j", "k"), full_web(("h", "i", "j", "k")).ties)
        self.assertEqual(rules_broken((four, seven, away), doors), [4, 7])
        check_error(self, InvalidPart, PartTree, (four, seven, away), doors)
        cut = PartTree.of_web(LADDER)
        check_error(self, InvalidPart, PartTree, cut.parts, cut.doors[1:])
        check_error(self, InvalidPart, PartTree, cut.parts[1:], ())

    def test_doors_between_parts_without_their_places(self):
        parts = (("held", ("a", "b", "c", "d"), FOUR.ties[:-1]), ("held", ("a", "b", "e", "f"), full_web(("a", "b", "e", "f")).ties[1:]),
                 ("bundle", ("c", "d"), (("c", "d"),)))
        doors = ((AB, 1, 2), (("c", "d"), 0, 2))
        self.assertFalse(have_form(parts, doors))
        check_error(self, InvalidPart, PartTree, parts, doors)
        first = (("bundle", AB, (AB,)), ("held", ("a", "b", "c", "d"), FOUR.ties[1:]),
                 ("held", ("c", "d", "e", "f"), full_web(("c", "d", "e", "f")).ties[1:]))
        doors_of_first = ((AB, 0, 1), (("c", "d"), 0, 2))
        self.assertFalse(have_form(first, doors_of_first))
        check_error(self, InvalidPart, PartTree, first, doors_of_first)
        for door in ((AB, 0, 0), (AB, 1, 1), (AB, 1, 0), (AB, 0, 3), (AB, -1, 0), (("c", "d"), 0, 1)):
            check_error(self, InvalidPart, PartTree, parts, (door, doors[1]))
            check_error(self, InvalidPart, PartTree, parts, (door,))

    def test_more_sides_than_ties_of_a_web(self):
        ties = tuple(combinations(LETTERS[:12], 2))
        parts = (("held", LETTERS[:12], ties[:60]), ("bundle", ("k", "l"), ()))
        self.assertEqual(rules_broken(parts, ((("k", "l"), 0, 1),)), [2, 3])
        check_error(self, InvalidPart, PartTree, parts, ((("k", "l"), 0, 1),))

    def test_two_bundles(self):
        parts = tuple(PartTree.of_web(BOOK).parts)
        doors = PartTree.of_web(BOOK).doors
        self.assertEqual(len(parts), 5)
        # The same bundle told as two has the same places twice, which no tree has.
        twice = (("bundle", AB, ()),) + parts
        told = tuple(sorted([(AB, 0, 1), (AB, 0, 2), (AB, 0, 3), (AB, 1, 4), (AB, 1, 5)]))
        self.assertFalse(have_form(twice, told))
        check_error(self, InvalidPart, PartTree, twice, told)
        self.assertEqual(PartTree(parts, doors), PartTree.of_web(BOOK))

    def test_bent_trees(self):
        for tree in TREES[:3] + TREES[4:5]:
            for value in bent((tree.parts, tree.doors)):
                right = isinstance(value, tuple) and len(value) == 2 and have_form(*value) and rules_broken(*value) == []
                self.assertIs(is_tree_of(tree.joined, value), is_in(value, [(tree.parts, tree.doors)]), value)
                if isinstance(value, tuple) and len(value) == 2:
                    if right:
                        self.assertEqual(PartTree(*value).joined, joined_by_force(value[0]))
                    else:
                        check_error(self, InvalidPart, PartTree, *value)

    def test_true_is_no_index(self):
        glued = PartTree.of_web(GLUED)
        for doors in (((AB, 0, True), (AB, 0, 2)), ((AB, False, 1), (AB, 0, 2)), ((AB, False, True), (AB, False, 2))):
            self.assertEqual(doors, glued.doors)
            check_error(self, InvalidPart, PartTree, glued.parts, doors)
            self.assertIs(is_tree_of(GLUED, (glued.parts, doors)), False)
        self.assertIs(is_tree_of(GLUED, (glued.parts, glued.doors)), True)

    def test_values_that_are_no_trees(self):
        for value in NOT_WEBS + (KITE, (KITE.parts,), (KITE.parts, KITE.doors, ()), [KITE.parts, KITE.doors], (list(KITE.parts), KITE.doors),
                                 (KITE.parts, list(KITE.doors)), (KITE.doors, KITE.parts), KITE.parts):
            self.assertIs(is_tree_of(KITE_WEB, value), False)
        for parts in ODD + ODD_TUPLES + ((), WHEEL, (WHEEL,), (RING, None), (RING, RING), RING, list((RING,)), ((RING,),)):
            for doors in ((), None, ((AB, 0, 1),), nested(8)):
                check_error(self, InvalidPart, PartTree, parts, doors)
        for doors in ODD + ODD_TUPLES + (WHEEL, (WHEEL,), (AB, 0, 1), [(AB, 0, 1)], ((AB, 0),), ((("b", "a"), 0, 1),), ((AB, 0, 10 ** 60),)):
            check_error(self, InvalidPart, PartTree, (RING,), doors)
            check_error(self, InvalidPart, PartTree, KITE.parts, doors)
        for part in (("Ring",) + RING[1:], (None,) + RING[1:], RING[:2], RING + ((),), list(RING), (RING[0], list(RING[1]), RING[2]),
                     (RING[0], RING[1], RING[2][::-1]), (RING[0], RING[1][::-1], RING[2]), (RING[0], ("a", "b"), RING[2]), (["ring"],) + RING[1:]):
            check_error(self, InvalidPart, PartTree, (part,), ())
        self.assertEqual(PartTree((RING,), ()).joined, full_web(("a", "b", "c")))

    def test_all_orders_and_splits_of_a_ring(self):
        web = ring_web(LETTERS[:5])
        right = (PartTree.of_web(web).parts, ())
        for order in permutations(LETTERS[:4]):
            value = ((("ring", order + ("e",), web.ties),), ())
            self.assertIs(is_tree_of(web, value), value == right)


class TreeTest(unittest.TestCase):
    def test_sides_and_webs_of_parts(self):
        for web in GROWN[:30] + SAMPLES:
            tree = PartTree.of_web(web)
            for index, (kind, places, ties) in enumerate(tree):
                self.assertEqual(tree[index], (kind, places, ties))
                sides = sides_by_force(tree.parts, tree.doors, index)
                self.assertEqual(tree.sides(index), tuple(sides))
                part = tree.part_web(index)
                self.assertEqual((part.places, part.ties), (places, tuple(sorted(set(sides)))))
                beside = sorted(door[1] + door[2] - index for door in tree.doors if index in door[1:])
                self.assertEqual(tree.beside(index), tuple(beside))
                for a, b in ties:
                    self.assertEqual((tree.part_with(a, b), tree.part_with(b, a)), (index, index))
            for place in web.places:
                self.assertEqual(tree.parts_at(place), tuple(index for index, part in enumerate(tree) if place in part[1]))
        self.assertEqual(str(PartTree.of_web(THETA).part_web(0)), "web of 2 places, 1 ties")

    def test_indices(self):
        for tree in TREES:
            calls = (tree.sides, tree.part_web, tree.beside, lambda index, tree=tree: tree[index])
            for call in calls:
                for index in (len(tree), -1, -len(tree), 10 ** 59, 10 ** 60) + tuple(
                        value for value in NOT_SIZES + ODD + ODD_TUPLES if not isinstance(value, int) or isinstance(value, bool)):
                    check_error(self, InvalidNumber, call, index, value=index)

    def test_unknown_places_and_ties(self):
        for value in NOT_TUPLES + ODD_TUPLES + ((), ("a", "b"), "z"):
            if value not in KITE_WEB.places:
                check_error(self, UnknownName, KITE.parts_at, value, word=value)
                check_error(self, UnknownName, KITE.part_with, value, "a", word=value)
                check_error(self, UnknownName, KITE.part_with, "a", value, word=value)
                check_error(self, UnknownName, KITE.part_with, value, "zz", word=value)
        for a, b in (("a", "d"), ("d", "a"), ("a", "a"), ("b", "d")):
            check_error(self, InvalidTie, KITE.part_with, a, b)
        self.assertEqual(KITE.part_with("c", "a"), 1)

    def test_renamed(self):
        right = {place: place for place in KITE_WEB.places}
        for names in bent(right):
            if is_naming_by_force(right, names):
                self.assertEqual(KITE.renamed(names).joined, KITE_WEB.renamed(names))
            else:
                check_error(self, InvalidOperation, KITE.renamed, names)
        for names in (None, (), {}, {**right, "z": "y"}, {**right, "a": "b"}):
            check_error(self, InvalidOperation, KITE.renamed, names)

    def test_values_within(self):
        for part in KITE:
            self.assertIs(part in KITE, True)
            for value in bent(part):
                self.assertIs(value in KITE, is_in(value, KITE.parts), value)
        for value in NOT_WEBS + (KITE, KITE.parts, RING):
            self.assertIs(value in KITE, False)

    def test_equal_trees(self):
        trees = TREES + tuple(PartTree.of_web(web) for web in (FOUR, WHEEL, ring_web(("a", "b", "c")), ring_web(("a", "b", "c", "d"))))
        for tree in trees:
            self.assertEqual([tree == other for other in trees], [tree is other for other in trees])
            for value in NOT_WEBS + (tree.parts, (tree.parts, tree.doors), tree.joined):
                self.assertIs(tree == value, False)
                self.assertIs(tree != value, True)
            self.assertEqual((len(tree), list(tree), [tree[k] for k in range(len(tree))]), (len(tree.parts), list(tree.parts), list(tree.parts)))
        self.assertEqual([str(tree) for tree in TREES[3:5]], ["tree of 5 parts, 4 doors", "tree of 1 parts, 0 doors"])

    def test_trees_are_unchanged(self):
        before = (KITE.parts, KITE.doors, KITE.joined.lines, KITE.parting_pairs)
        names = {place: place * 2 for place in KITE_WEB.places}
        KITE.renamed(names)
        self.assertEqual(names, {place: place * 2 for place in KITE_WEB.places})
        check_error(self, InvalidNumber, KITE.sides, 3, value=3)
        check_error(self, InvalidOperation, KITE.renamed, {})
        with self.assertRaises(AttributeError):
            KITE.parts = ()
        self.assertEqual((KITE.parts, KITE.doors, KITE.joined.lines, KITE.parting_pairs), before)


if __name__ == "__main__":
    unittest.main()
