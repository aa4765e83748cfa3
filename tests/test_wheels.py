"""Promises [0.11], [0.12] and stage 3: rings and wheels."""

import random
import unittest
from itertools import combinations, islice, permutations

from tests.force import all_webs, random_webs, rings_of
from tests.samples import APART, BOW, FIVE, FOUR, GLUED, LETTERS, NOT_SIZES, NOT_TUPLES, NOT_WEBS, ODD, ODD_TUPLES
from tests.samples import PAIR, PRISM, SINGLE, SOME_WEBS, WHEEL, check_error, nested
from wheelgrown.base.webs import Web, full_web, ring_web
from wheelgrown.base.wheels import count_rings, each_ring, is_bare, is_plain, is_ring, is_wheel, is_wheel_web
from wheelgrown.base.wheels import plain_ring, wheel_web, wheels_of
from wheelgrown.errors import InvalidGrowth, InvalidNumber, InvalidRoute, InvalidWeb, TooMany

MANY = full_web(LETTERS[:11])
NOT_ROUND = NOT_TUPLES + ODD_TUPLES + ((), ("a",), ("a", "b"), ("a", "b", "a"), ("a", "b", "c", "b"), ("b", "a", "abcdefghi"))


def turned(ring):
    """The ring as all tuples that tell it."""
    both = (ring, ring[::-1])
    return {form[index:] + form[:index] for form in both for index in range(len(ring))}


def big_wheel(spokes):
    return ("hub", tuple("abcdefgijklmnop"[:spokes]))


def without_ties(told):
    """The web of ten places with all ties but these."""
    taken = [tuple(pair) for pair in told.split()]
    return Web.of_ties(*[tie for tie in full_web(LETTERS[:10]).ties if tie not in taken])


class ExamplesTest(unittest.TestCase):
    def test_rings(self):
        self.assertEqual(
            [plain_ring(("c", "d", "a", "b")), is_plain(("a", "c", "b")), is_ring(WHEEL, ("b", "h", "a")),
             is_bare(PRISM, ("a", "b", "e", "d"))],
            [("a", "b", "c", "d"), False, True, True])

    def test_numbers(self):
        self.assertEqual(
            [list(each_ring(PRISM, 4)), count_rings(FIVE, 5), wheels_of(WHEEL),
             len(wheels_of(full_web(("a", "b", "c", "d"))))],
            [[("a", "b", "e", "d"), ("a", "c", "f", "d"), ("b", "c", "f", "e")], 12, (("h", ("a", "b", "c", "d")),), 4])

    def test_wheels(self):
        self.assertEqual(
            [wheel_web(("h", ("a", "b", "c", "d"))) == WHEEL, is_wheel(("h", ("a", "c", "b"))), is_wheel_web(PRISM)],
            [True, False, False])


class PlainTest(unittest.TestCase):
    def test_each_ring_has_one_plain_form(self):
        for size in (3, 4, 5, 6):
            for ring in permutations(("d", "a", "zz", "c", "b", "ab")[:size]):
                plain = [form for form in turned(ring) if form[0] == min(form) and form[1] < form[-1]]
                self.assertEqual([plain_ring(ring)], plain)
                self.assertIs(is_plain(ring), ring in plain)

    def test_long_rings(self):
        for ring in (LETTERS[:16], LETTERS[:17], LETTERS):
            self.assertEqual(plain_ring(ring[::-1]), ring)
            self.assertIs(is_plain(ring), True)

    def test_no_rings(self):
        for value in NOT_ROUND:
            check_error(self, InvalidRoute, plain_ring, value)
            self.assertIs(is_plain(value), False)


class RingsTest(unittest.TestCase):
    def test_against_force(self):
        webs = (WHEEL, PRISM, FIVE, FOUR, GLUED, BOW, SINGLE, PAIR, APART) + tuple(random_webs(random.Random(2), 40, 1, 7))
        for web in webs:
            for size in range(3, 9):
                rings = rings_of(web, size)
                self.assertEqual(list(each_ring(web, size)), rings)
                self.assertEqual(count_rings(web, size), len(rings))
                for ring in rings[:20]:
                    across = [pair for pair in combinations(ring, 2) if tuple(sorted(pair)) in web.ties]
                    for form in turned(ring):
                        self.assertIs(is_ring(web, form), True)
                        self.assertIs(is_bare(web, form), len(across) == size)

    def test_is_ring_against_force(self):
        for web in (WHEEL, BOW, APART, ring_web(("a", "c", "b", "d"))):
            for size in range(6):
                for value in permutations("abcdh", size):
                    right = size >= 3 and plain_ring(value) in rings_of(web, size)
                    self.assertIs(is_ring(web, value), right)
                    if not right:
                        check_error(self, InvalidRoute, is_bare, web, value)

    def test_bare_rings(self):
        self.assertIs(is_bare(FOUR, ("a", "b", "c")), True)
        self.assertIs(is_bare(FOUR, ("a", "b", "c", "d")), False)
        self.assertIs(is_bare(WHEEL, ("d", "c", "b", "a")), True)
        self.assertIs(is_bare(WHEEL, ("a", "b", "c", "h")), False)

    def test_values_that_are_no_rings(self):
        for value in NOT_ROUND + (("a", "b", "z"), ("a", "c", "h"), ["a", "b", "h"], ("a", "b", "h", "a"), WHEEL):
            self.assertIs(is_ring(WHEEL, value), False)
            check_error(self, InvalidRoute, is_bare, WHEEL, value)

    def test_sizes(self):
        for size in NOT_SIZES:
            check_error(self, InvalidNumber, lambda: next(each_ring(WHEEL, size)), value=size)
            check_error(self, InvalidNumber, count_rings, WHEEL, size, value=size)
        for size in range(6, 17):
            self.assertEqual(list(each_ring(WHEEL, size)), [])
            self.assertEqual(count_rings(WHEEL, size), 0)
        self.assertEqual(list(each_ring(ring_web(LETTERS[:16]), 16)), [LETTERS[:16]])
        self.assertEqual(list(each_ring(ring_web(LETTERS[:16]), 15)), [])
        self.assertEqual(count_rings(WHEEL, 3), 4)

    def test_no_webs(self):
        for web in NOT_WEBS:
            for size in (3, True, None, 10 ** 60):
                check_error(self, InvalidWeb, lambda: next(each_ring(web, size)))
                check_error(self, InvalidWeb, count_rings, web, size)
            for value in (("a", "b", "c"), None, nested(8)):
                check_error(self, InvalidWeb, is_ring, web, value)
                check_error(self, InvalidWeb, is_bare, web, value)
            check_error(self, InvalidWeb, wheels_of, web)
            check_error(self, InvalidWeb, is_wheel_web, web)

    def test_errors_come_with_the_first_result(self):
        for web, size, kind in ((None, 3, InvalidWeb), (WHEEL, 2, InvalidNumber), (7, 2, InvalidWeb)):
            rings = each_ring(web, size)
            with self.assertRaises(kind):
                next(rings)

    def test_a_few_results_only(self):
        rings = list(islice(each_ring(MANY, 11), 500))
        self.assertEqual(rings[0], LETTERS[:11])
        self.assertEqual(rings, sorted(set(rings)))
        for ring in rings:
            self.assertTrue(is_plain(ring) and is_ring(MANY, ring))
        two = each_ring(PRISM, 3), each_ring(PRISM, 3)
        self.assertEqual([next(two[0]), next(two[1]), next(two[0])], [("a", "b", "c"), ("a", "b", "c"), ("d", "e", "f")])

    def test_many_rings(self):
        # Of eight of eleven places with all ties there are 165 * 2520 rings, of five places 462 * 12.
        check_error(self, TooMany, count_rings, MANY, 8, limit=20000)
        check_error(self, TooMany, count_rings, MANY, 11, limit=20000)
        self.assertEqual(count_rings(MANY, 5), 462 * 12)
        # All of nine places: 8! / 2 rings, just beyond the limit; all but some of them, within it.
        check_error(self, TooMany, count_rings, full_web(LETTERS[:9]), 9, limit=20000)
        web = full_web(LETTERS[:9]).without_tie("a", "b")
        self.assertEqual(count_rings(web, 9), 20160 - 5040)

    def test_just_so_many_rings(self):
        # Webs of ten places that lack a few ties; their numbers of rings of nine places are 20000 and 20004.
        within = without_ties("ae ah bi ce ch cj ef fh fj")
        beyond = without_ties("cd cj de dh ei gh gi gj ij")
        self.assertEqual(sum(1 for ring in each_ring(within, 9)), 20000)
        self.assertEqual(count_rings(within, 9), 20000)
        self.assertEqual(sum(1 for ring in each_ring(beyond, 9)), 20004)
        check_error(self, TooMany, count_rings, beyond, 9, limit=20000)

    def test_where_there_are_none_it_does_not_take_long(self):
        sides = (LETTERS[:7], LETTERS[7:15])
        web = Web.of_ties(*[(a, b) for a in sides[0] for b in sides[1]])
        self.assertEqual([count_rings(web, size) for size in (3, 5, 7, 9, 11, 13, 15, 16)], [0] * 8)
        self.assertEqual(count_rings(web, 4), 21 * 28)


class WheelsTest(unittest.TestCase):
    def test_wheels_of_all_sizes(self):
        for spokes in range(3, 16):
            wheel = big_wheel(spokes)
            self.assertIs(is_wheel(wheel), True)
            web = wheel_web(wheel)
            self.assertEqual(web.places, tuple(sorted(("hub",) + wheel[1])))
            self.assertEqual(web.neighbours("hub"), wheel[1])
            self.assertEqual(web - ("hub",), ring_web(wheel[1]))
            self.assertEqual(len(web.ties), 2 * spokes)
            self.assertIs(is_wheel_web(web), True)
            if spokes > 3:
                self.assertEqual(wheels_of(web), (wheel,))
        for spokes in (0, 1, 2):
            self.assertIs(is_wheel(big_wheel(spokes)), False)
        self.assertIs(is_wheel(("hub", tuple("abcdefgijklmnopq"))), False)

    def test_four_wheels(self):
        self.assertEqual(
            wheels_of(FOUR),
            (("a", ("b", "c", "d")), ("b", ("a", "c", "d")), ("c", ("a", "b", "d")), ("d", ("a", "b", "c"))))

    def test_values_near_wheels(self):
        near = (
            ("a", ("a", "b", "c")), ("c", ("a", "b", "c")), ("h", ("a", "b")), ("h", ()), ("h", ("a", "c", "b")),
            ("h", ("b", "a", "c")), ("h", ("a", "b", "b")), ("h", ["a", "b", "c"]), ["h", ("a", "b", "c")], ("h",), (),
            ("h", ("a", "b", "c"), ()), ("H", ("a", "b", "c")), ("abcdefghi", ("a", "b", "c")), (None, ("a", "b", "c")),
            ("h", ("a", "b", "C")), ("h", ("a", "b", None)), ("h", None), (("a", "b", "c"), "h"), ("h", "abc"), (["h"], ("a", "b", "c")),
            ("h", (("a", "b", "c"),)), (WHEEL, ("a", "b", "c")), ("h", WHEEL), WHEEL, ("h", ("a", "b", ["c"])),
        )
        for value in near + ODD + ODD_TUPLES:
            self.assertIs(is_wheel(value), False)
            check_error(self, InvalidGrowth, wheel_web, value)

    def test_wheels_against_force(self):
        webs = SOME_WEBS + tuple(all_webs("abcd")) + tuple(all_webs("abcde"))
        webs += tuple(web.with_tie(a, b) for web in (WHEEL, PRISM) for a, b in combinations(web.places, 2) if not web.is_tied(a, b))
        webs += tuple(wheel_web(big_wheel(6)).without_tie(a, b) for a, b in wheel_web(big_wheel(6)).ties)
        for web in webs:
            found = []
            for hub in web.places:
                rest = tuple(place for place in web.places if place != hub)
                rings = rings_of(web - (hub,), len(rest)) if 3 <= len(rest) <= 6 and len(web.ties) == 2 * len(rest) else []
                found += [(hub, ring) for ring in rings if wheel_web((hub, ring)) == web]
            self.assertEqual(wheels_of(web), tuple(found))
            self.assertIs(is_wheel_web(web), found != [])

    def test_two_rings_round_a_hub_are_no_wheel(self):
        rings = ring_web(("a", "b", "c")) + ring_web(("d", "e", "f"))
        web = rings + Web.of_ties(*[(place, "h") for place in rings.places])
        self.assertEqual(wheels_of(web), ())

    def test_webs_are_unchanged(self):
        before = (PRISM.places, PRISM.ties)
        list(each_ring(PRISM, 5))
        wheels_of(PRISM)
        check_error(self, InvalidRoute, is_bare, PRISM, ("a", "b", "d"))
        self.assertEqual((PRISM.places, PRISM.ties), before)


if __name__ == "__main__":
    unittest.main()
