"""Promises [0.19], [5.1] and stage 5: ways apart and gates."""

import random
import unittest
from itertools import combinations, permutations

from tests.force import all_webs, gates_of, is_held_by_force, is_ways_by_force, most_ways_of, random_webs, routes_of
from tests.samples import APART, BOW, FIVE, FOUR, GLUED, LETTERS, NOT_TUPLES, NOT_WEBS, ODD_TUPLES, PAIR, PRISM, SINGLE
from tests.samples import SOME_WEBS, WHEEL, check_error, nested
from wheelgrown.base.webs import Web, full_web, ring_web
from wheelgrown.base.wheels import is_plain, is_ring
from wheelgrown.errors import InvalidOperation, InvalidWeb, UnknownName
from wheelgrown.part.ways import count_ways, is_gate, is_least_gate, is_most_ways, is_ways, least_gate
from wheelgrown.part.ways import ring_through, three_ways, ways_apart, weakest

SMALL_WEBS = tuple(all_webs("ab")) + tuple(all_webs("abc")) + tuple(all_webs("abcd"))
DRAWN = tuple(random_webs(random.Random(6), 60, 2, 6))
LARGE = tuple(random_webs(random.Random(7), 8, 12, 16))
TWO = (ways_apart, count_ways, least_gate, three_ways, ring_through)
THREE = (is_ways, is_most_ways, is_gate, is_least_gate)

# What the functions answer for two places: ways apart, a least gate, and a ring through both.
ANSWERS = (
    (PRISM, "a", "c", (("a", "b", "c"), ("a", "c"), ("a", "d", "f", "c")), ("b", "d"), ("a", "b", "c")),
    (PRISM, "c", "a", (("c", "a"), ("c", "b", "a"), ("c", "f", "d", "a")), ("b", "f"), ("a", "b", "c")),
    (PRISM, "b", "e", (("b", "a", "d", "e"), ("b", "c", "f", "e"), ("b", "e")), ("a", "c"), ("a", "b", "c", "f", "e", "d")),
    (PRISM, "a", "f", (("a", "b", "e", "f"), ("a", "c", "f"), ("a", "d", "f")), ("b", "c", "d"), ("a", "b", "e", "f", "c")),
    (WHEEL, "a", "c", (("a", "b", "c"), ("a", "d", "c"), ("a", "h", "c")), ("b", "d", "h"), ("a", "b", "c", "d")),
    (WHEEL, "d", "b", (("d", "a", "b"), ("d", "c", "b"), ("d", "h", "b")), ("a", "c", "h"), ("a", "b", "c", "d")),
    (WHEEL, "h", "a", (("h", "a"), ("h", "b", "a"), ("h", "d", "a")), ("b", "d"), ("a", "b", "h")),
    (WHEEL, "a", "b", (("a", "b"), ("a", "d", "c", "b"), ("a", "h", "b")), ("d", "h"), ("a", "b", "c", "d")),
    (GLUED, "a", "c", (("a", "b", "c"), ("a", "c"), ("a", "d", "c")), ("b", "d"), ("a", "b", "c")),
    (GLUED, "b", "e", (("b", "a", "e"), ("b", "e"), ("b", "f", "e")), ("a", "f"), ("a", "b", "e")),
    (GLUED, "a", "f", (("a", "b", "f"), ("a", "e", "f"), ("a", "f")), ("b", "e"), ("a", "b", "f", "e")),
    (BOW, "a", "c", (("a", "b", "c"), ("a", "c")), ("b",), ("a", "b", "c")),
    (BOW, "b", "e", (("b", "c", "e"),), ("c",), None),
    (BOW, "a", "f", (("a", "c", "e", "f"),), ("c",), None),
)


def pairs_of(web):
    return list(permutations(web.places, 2))


class ExamplesTest(unittest.TestCase):
    def test_ways_and_gates(self):
        # "Any" ways apart are right: just their number is told by the example.
        ways = ways_apart(PRISM, "a", "e")
        self.assertTrue(is_ways_by_force(routes_of(PRISM, "a", "e"), ways))
        self.assertEqual(len(ways), 3)
        self.assertIs(is_most_ways(PRISM, "a", "e", (("a", "b", "e"), ("a", "c", "f", "e"), ("a", "d", "e"))), True)
        self.assertEqual([count_ways(GLUED, "a", "b"), least_gate(GLUED, "c", "f"), least_gate(GLUED, "b", "a")],
                         [5, ("a", "b"), ("c", "d", "e", "f")])

    def test_answers_value_by_value(self):
        for web, a, b, ways, gate, ring in ANSWERS:
            self.assertEqual((ways_apart(web, a, b), least_gate(web, a, b), ring_through(web, a, b)), (ways, gate, ring))
            self.assertEqual(count_ways(web, a, b), len(ways))
            self.assertEqual(three_ways(web, a, b), ways[:3] if len(ways) >= 3 else None)
        self.assertEqual([weakest(web) for web in (PRISM, WHEEL, GLUED, BOW)], [("a", "b"), ("a", "b"), ("c", "e"), ("a", "d")])

    def test_judging_and_rings(self):
        self.assertEqual(
            [is_ways(PRISM, "a", "d", (("a", "d"),)), is_gate(PRISM, "a", "d", ()), three_ways(GLUED, "c", "e"),
             ring_through(BOW, "a", "d"), ring_through(BOW, "b", "a")],
            [True, False, None, None, ("a", "b", "c")])


class WaysTest(unittest.TestCase):
    def check_pair(self, web, a, b):
        routes = routes_of(web, a, b)
        most = most_ways_of(routes)
        ways = ways_apart(web, a, b)
        self.assertTrue(is_ways_by_force(routes, ways), (web.ties, a, b, ways))
        self.assertEqual((len(ways), count_ways(web, a, b)), (most, most))
        self.assertIs(is_ways(web, a, b, ways) and is_most_ways(web, a, b, ways), True)
        gates = gates_of(web, a, b, routes)
        least = min(map(len, gates))
        gate = least_gate(web, a, b)
        self.assertIn(gate, gates)
        self.assertEqual(len(gate), least)
        self.assertEqual(most, least + web.is_tied(a, b))
        three = three_ways(web, a, b)
        self.assertIs(three is None, most < 3)
        if three is not None:
            self.assertTrue(is_ways_by_force(routes, three) and len(three) == 3)
        ring = ring_through(web, a, b)
        self.assertIs(ring is None, most < 2)
        if ring is not None:
            self.assertTrue(is_ring(web, ring) and is_plain(ring) and a in ring and b in ring)

    def test_against_force(self):
        for web in SMALL_WEBS + DRAWN + (WHEEL, PRISM, FIVE, GLUED, BOW):
            for a, b in pairs_of(web):
                self.check_pair(web, a, b)

    def test_ways_against_gates_in_large_webs(self):
        for web in LARGE + (full_web(LETTERS[:11]), ring_web(LETTERS[:16]), Web(LETTERS[:16], ())):
            for a, b in pairs_of(web)[::3]:
                ways = ways_apart(web, a, b)
                gate = least_gate(web, a, b)
                self.assertEqual(len(ways), len(gate) + web.is_tied(a, b))
                self.assertIs(is_ways(web, a, b, ways), True)
                self.assertIs(is_gate(web, a, b, gate), True)
                self.assertNotIn(a, gate)
                lots = (web if not web.is_tied(a, b) else web.without_tie(a, b)).without_places(gate).lots
                self.assertFalse([lot for lot in lots if a in lot and b in lot])
                inner = [place for way in ways for place in way[1:-1]]
                self.assertEqual(len(inner), len(set(inner)))

    def test_all_that_is_right_is_taken(self):
        for web, a, b in ((PRISM, "a", "d"), (PRISM, "f", "a"), (WHEEL, "h", "c"), (WHEEL, "a", "c"), (BOW, "a", "c"), (APART, "a", "b")):
            routes = routes_of(web, a, b)
            most = most_ways_of(routes)
            for size in range(5):
                for value in combinations(routes, size):
                    right = is_ways_by_force(routes, value)
                    self.assertIs(is_ways(web, a, b, value), right)
                    self.assertIs(is_most_ways(web, a, b, value), right and size == most)
            gates = gates_of(web, a, b, routes)
            least = min(map(len, gates))
            for size in range(5):
                for value in combinations(web.places, size):
                    self.assertIs(is_gate(web, a, b, value), value in gates)
                    self.assertIs(is_least_gate(web, a, b, value), value in gates and size == least)

    def test_edges_of_judging(self):
        self.assertIs(is_ways(PRISM, "a", "e", ()), True)
        self.assertIs(is_most_ways(PRISM, "a", "e", ()), False)
        self.assertIs(is_ways(APART, "a", "b", ()) and is_most_ways(APART, "a", "b", ()), True)
        self.assertIs(is_gate(APART, "a", "b", ()) and is_least_gate(APART, "a", "b", ()), True)
        self.assertIs(is_gate(PAIR, "a", "b", ()) and is_least_gate(PAIR, "b", "a", ()), True)
        self.assertIs(is_most_ways(PAIR, "b", "a", (("b", "a"),)), True)
        wrong = (
            (("a", "b", "e"), ("a", "b", "e")), (("a", "d", "e"), ("a", "b", "e")), (("a", "b", "e"), ("a", "c", "b", "e")),
            (("e", "b", "a"),), (("a",),), (("a", "e"),), (("a", "b"),), (("b", "e"),), (("a", "b", "a", "b", "e"),), ((),),
            [("a", "b", "e")], (["a", "b", "e"],), (("a", "b", "e"), None), (("a", "z", "e"),), ("a", "b", "e"), (("a", "B", "e"),),
        )
        for value in wrong + NOT_TUPLES + ODD_TUPLES:
            self.assertIs(is_ways(PRISM, "a", "e", value), False)
            self.assertIs(is_most_ways(PRISM, "a", "e", value), False)

    def test_values_that_are_no_gates(self):
        wrong = (("c", "b", "d"), ("a", "b", "c", "d"), ("b", "c", "d", "e"), ("b", "b", "c", "d"), ["b", "c", "d"], ("b", "c", "z"),
                 ("b", "c", "d", "z"), ("b", "c"), ())
        for value in wrong + NOT_TUPLES + ODD_TUPLES:
            self.assertIs(is_gate(PRISM, "a", "e", value), False)
            self.assertIs(is_least_gate(PRISM, "a", "e", value), False)
        self.assertIs(is_gate(PRISM, "a", "e", ("b", "c", "d")), True)
        self.assertIs(is_least_gate(PRISM, "a", "e", ("b", "d", "f")), True)
        self.assertIs(is_gate(PRISM, "a", "e", ("b", "c", "d", "f")), True)
        self.assertIs(is_least_gate(PRISM, "a", "e", ("b", "c", "d", "f")), False)

    def test_the_tie_is_a_way(self):
        self.assertEqual(ways_apart(PAIR, "b", "a"), (("b", "a"),))
        self.assertEqual(least_gate(PAIR, "b", "a"), ())
        self.assertIsNone(ring_through(PAIR, "a", "b"))
        self.assertIn(("c", "a"), ways_apart(FOUR, "c", "a"))


class WeakestTest(unittest.TestCase):
    def test_against_force(self):
        for web in SMALL_WEBS + DRAWN[:40] + (WHEEL, PRISM, GLUED, BOW):
            a, b = weakest(web)
            least = min(most_ways_of(routes_of(web, x, y)) for x, y in combinations(web.places, 2))
            self.assertTrue(a < b and a in web.places and b in web.places)
            self.assertEqual(most_ways_of(routes_of(web, a, b)), least)

    def test_held_webs_have_three_ways_between_all_places(self):
        for web in tuple(all_webs("abcd")) + tuple(all_webs("abcde"))[::3] + DRAWN + LARGE + (WHEEL, PRISM, FIVE, GLUED, BOW):
            if len(web) >= 4:
                held = is_held_by_force(web)
                self.assertIs(count_ways(web, *weakest(web)) >= 3, held)
                self.assertIs(all(three_ways(web, a, b) is not None for a, b in combinations(web.places, 2)), held)

    def test_one_place(self):
        check_error(self, InvalidOperation, weakest, SINGLE)
        self.assertEqual(weakest(APART), ("a", "b"))

    def test_no_webs(self):
        for web in NOT_WEBS:
            check_error(self, InvalidWeb, weakest, web)


class ErrorsTest(unittest.TestCase):
    def test_no_webs(self):
        for web in NOT_WEBS:
            for a, b in (("a", "b"), ("a", "a"), (None, nested(8))):
                for call in TWO:
                    check_error(self, InvalidWeb, call, web, a, b)
                for call in THREE:
                    check_error(self, InvalidWeb, call, web, a, b, ())

    def test_unknown_places(self):
        for value in NOT_TUPLES + ODD_TUPLES + ((), ("a", "b"), "z"):
            if value in WHEEL.places:
                continue
            for call in TWO + tuple(lambda web, a, b, judge=judge: judge(web, a, b, None) for judge in THREE):
                check_error(self, UnknownName, call, WHEEL, value, "a", word=value)
                check_error(self, UnknownName, call, WHEEL, "a", value, word=value)
                check_error(self, UnknownName, call, WHEEL, value, value, word=value)
                check_error(self, UnknownName, call, WHEEL, value, "zz", word=value)

    def test_equal_places(self):
        for web in SOME_WEBS:
            for call in TWO:
                check_error(self, InvalidOperation, call, web, web.places[0], web.places[0])
            for call in THREE:
                for value in ((), None, ((web.places[0],),)):
                    check_error(self, InvalidOperation, call, web, web.places[0], web.places[0], value)

    def test_webs_are_unchanged(self):
        before = (PRISM.places, PRISM.ties)
        for call in TWO:
            call(PRISM, "a", "e")
        weakest(PRISM)
        self.assertEqual((PRISM.places, PRISM.ties), before)


if __name__ == "__main__":
    unittest.main()
