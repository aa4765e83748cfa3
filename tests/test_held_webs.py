"""Promises [0.17], [16.1], [16.2] and stage 16: held webs with told names, samenesses, kinds."""

import random
import unittest
from itertools import combinations, islice, permutations
from math import factorial

from tests.force import all_webs, is_held_by_force, random_webs
from tests.samples import APART, BOW, FIVE, FOUR, GLUED, LETTERS, NOT_TUPLES, NOT_WEBS, ODD_TUPLES, PAIR, PRISM, SINGLE
from tests.samples import SOME_WEBS, WHEEL, check_error
from wheelgrown.base.webs import Web, full_web, ring_web
from wheelgrown.base.wheels import is_wheel_web
from wheelgrown.count.webs import MAX_ALIKE, MAX_NAMED, count_held, count_samenesses, each_held, held_by_ties, held_kinds
from wheelgrown.count.webs import is_sameness, plain_web, sameness
from wheelgrown.errors import InvalidNumber, InvalidPlace, InvalidWeb, TooMany
from wheelgrown.part.partings import is_held

NAMED = (count_held, held_by_ties, held_kinds, lambda places: next(each_held(places)))
DRAWN = tuple(random_webs(random.Random(8), 25, 1, 5))


def samenesses_of(one, other):
    """All samenesses, by all orders."""
    found = []
    for order in permutations(other.places) if len(one) == len(other) else ():
        names = dict(zip(one.places, order))
        if sorted(tuple(sorted((names[a], names[b]))) for a, b in one.ties) == list(other.ties):
            found.append(names)
    return found


def least_alike(web):
    return min(tuple(sorted(tuple(sorted((order[web.places.index(a)], order[web.places.index(b)]))) for a, b in web.ties))
               for order in permutations(web.places))


def splits_of(web, new):
    """All webs that come by splitting a place of the web, as [0.13] tells it."""
    for place in web.places:
        near = web.neighbours(place)
        for size in range(2, len(near) - 1):
            for moved in combinations(near, size):
                grown = web.with_place(new).with_tie(place, new)
                for other in moved:
                    grown = grown.without_tie(place, other).with_tie(new, other)
                yield grown


class ExamplesTest(unittest.TestCase):
    def test_held(self):
        self.assertEqual(
            [count_held(("a", "b", "c", "d")), count_held(("a", "b", "c", "d", "e")), held_by_ties(("a", "b", "c", "d", "e")),
             len(held_kinds(("a", "b", "c", "d", "e")))],
            [1, 26, {8: 15, 9: 10, 10: 1}, 3])

    def test_samenesses(self):
        self.assertEqual(
            [count_samenesses(WHEEL), count_samenesses(PRISM), sameness(WHEEL, PRISM), plain_web(ring_web(("a", "c", "b", "d"))).ties],
            [8, 12, None, (("a", "b"), ("a", "c"), ("b", "d"), ("c", "d"))])


class HeldTest(unittest.TestCase):
    def test_constants(self):
        self.assertEqual((MAX_NAMED, MAX_ALIKE), (6, 7))

    def test_four_and_five_names_against_force(self):
        for places in (("a", "b", "c", "d"), ("a", "b", "c", "d", "e"), ("ab", "b", "x", "xy", "z")):
            held = [web for web in all_webs(places) if is_held_by_force(web)]
            self.assertEqual(list(each_held(places)), held)
            self.assertEqual(count_held(places), len(held))
            many = [len(web.ties) for web in held]
            self.assertEqual(list(held_by_ties(places).items()), sorted((number, many.count(number)) for number in set(many)))
            kinds = [web for web in held if least_alike(web) == web.ties]
            self.assertEqual(held_kinds(places), tuple(kinds))

    def test_six_names(self):
        places = LETTERS[:6]
        held = list(each_held(places))
        ties = [web.ties for web in held]
        self.assertEqual(ties, sorted(set(ties)))
        self.assertEqual((len(held), count_held(places)), (1768, 1768))
        self.assertEqual(held_by_ties(places), {9: 70, 10: 492, 11: 690, 12: 395, 13: 105, 14: 15, 15: 1})
        self.assertEqual(list(held_by_ties(places)), list(range(9, 16)))
        self.assertTrue(all(web.places == places and is_held_by_force(web) for web in held[::40]))
        source = random.Random(9)
        pairs = list(combinations(places, 2))
        for _ in range(300):
            web = Web(places, tuple(sorted(source.sample(pairs, source.randint(7, 15)))))
            self.assertIs(web.ties in ties, is_held_by_force(web))

    def test_kinds_of_six_names(self):
        kinds = held_kinds(LETTERS[:6])
        self.assertEqual(len(kinds), 17)
        self.assertEqual([web.ties for web in kinds], sorted(web.ties for web in kinds))
        for web in kinds:
            self.assertEqual(plain_web(web), web)

    def test_held_webs_are_counted_by_their_kinds(self):
        for size in (4, 5, 6):
            kinds = held_kinds(LETTERS[:size])
            self.assertEqual(sum(factorial(size) // count_samenesses(web) for web in kinds), count_held(LETTERS[:size]))

    def test_a_few_results_only(self):
        first = list(islice(each_held(LETTERS[:6]), 3))
        self.assertEqual([web.places for web in first], [LETTERS[:6]] * 3)
        self.assertEqual([web.ties for web in first], sorted(web.ties for web in first))
        two = each_held(LETTERS[:5]), each_held(LETTERS[:5])
        self.assertEqual(next(two[0]), next(two[1]))
        self.assertNotEqual(next(two[0]), next(each_held(LETTERS[:5])))

    def test_wrong_places(self):
        for call in NAMED:
            for places in NOT_TUPLES + ODD_TUPLES + (("b", "a", "c", "d"), ("a", "b", "c", "c"), ["a", "b", "c", "d"], ("b", "a")):
                check_error(self, InvalidPlace, call, places)
            for size in (0, 1, 2, 3, 7, 8, 16, 17):
                check_error(self, InvalidNumber, call, LETTERS[:size], value=size)

    def test_errors_come_with_the_first_result(self):
        for places, kind in ((None, InvalidPlace), (("a", "b", "c"), InvalidNumber), (LETTERS[:7], InvalidNumber)):
            webs = each_held(places)
            with self.assertRaises(kind):
                next(webs)


class SamenessTest(unittest.TestCase):
    def test_against_force(self):
        webs = (WHEEL, FIVE, FOUR, SINGLE, PAIR, APART, ring_web(("a", "c", "b", "d")), GLUED, PRISM) + DRAWN
        for one in webs:
            for other in webs:
                right = samenesses_of(one, other)
                found = sameness(one, other)
                self.assertIs(found is None, right == [])
                if found is not None:
                    self.assertIn(found, right)
                    self.assertEqual(tuple(found), one.places)
                    self.assertEqual(one.renamed(found), other)
            self.assertEqual(count_samenesses(one), len(samenesses_of(one, one)))

    def test_judging_against_force(self):
        other = WHEEL.renamed({"a": "h", "b": "q", "c": "z", "d": "b", "h": "m"})
        right = samenesses_of(WHEEL, other)
        self.assertEqual(len(right), 8)
        for order in permutations(other.places):
            names = dict(zip(WHEEL.places, order))
            self.assertIs(is_sameness(WHEEL, other, names), names in right)
            self.assertIs(is_sameness(WHEEL, other, dict(reversed(names.items()))), names in right)
        self.assertIn(sameness(WHEEL, other), right)

    def test_values_that_are_no_samenesses(self):
        same = {"a": "a", "b": "b"}
        self.assertIs(is_sameness(PAIR, PAIR, same), True)
        self.assertIs(is_sameness(PAIR, APART, same), False)
        wrong = ({"a": "a"}, {"a": "a", "b": "b", "c": "c"}, {"a": "a", "b": "a"}, {"a": "a", "b": "z"}, {"a": "a", "b": None}, {},
                 {"a": "a", "b": ["b"]}, {"a": "a", 1: "b"}, (("a", "a"), ("b", "b")), {"a": "a", "b": "B"}, {"a": "a", None: "b"})
        for value in wrong + tuple(value for value in NOT_WEBS if value != {"a": "b", "b": "a"}):
            self.assertIs(is_sameness(PAIR, PAIR, value), False)
        self.assertIs(is_sameness(SINGLE, PAIR, {"a": "a"}), False)
        self.assertIs(is_sameness(PAIR, SINGLE, {"a": "a", "b": "b"}), False)

    def test_large_webs_are_judged(self):
        web = ring_web(LETTERS[:16])
        names = {letter: LETTERS[index - 1] if index else LETTERS[15] for index, letter in enumerate(LETTERS[:16])}
        self.assertIs(is_sameness(web, web, names), True)
        self.assertIs(is_sameness(web, web, {**names, "a": "a", "b": "p"}), False)

    def test_seven_and_eight_places(self):
        seven, eight = ring_web(LETTERS[:7]), ring_web(LETTERS[:8])
        self.assertEqual((count_samenesses(seven), count_samenesses(full_web(LETTERS[:7]))), (14, 5040))
        other = seven.renamed(dict(zip(LETTERS[:7], ("t", "a", "s", "b", "r", "c", "q"))))
        self.assertEqual(seven.renamed(sameness(seven, other)), other)
        self.assertEqual(plain_web(other).ties, least_alike(other))
        for call in (count_samenesses, plain_web):
            check_error(self, TooMany, call, eight, limit=7)
            check_error(self, TooMany, call, Web(LETTERS[:16], ()), limit=7)
        check_error(self, TooMany, sameness, eight, eight, limit=7)
        check_error(self, TooMany, sameness, eight, Web(LETTERS[:8], ()), limit=7)
        self.assertIsNone(sameness(eight, seven))
        self.assertIsNone(sameness(seven, eight))
        self.assertIsNone(sameness(ring_web(LETTERS[:9]), eight))
        self.assertIsNone(sameness(seven, seven.without_tie("a", "b")))

    def test_plain_webs_against_force(self):
        for web in (WHEEL, PRISM, GLUED, BOW, SINGLE, PAIR, APART, FIVE) + DRAWN + tuple(all_webs("abcd")):
            made = plain_web(web)
            self.assertEqual((made.places, made.ties), (web.places, least_alike(web)))
            self.assertIsNotNone(sameness(web, made))

    def test_numbers_of_alike_webs(self):
        webs = all_webs("abcd")
        for web in webs:
            alike = [other for other in webs if samenesses_of(web, other)]
            self.assertEqual(len(alike), 24 // count_samenesses(web))
            self.assertEqual(len({is_held(other) for other in alike}), 1)

    def test_no_webs(self):
        for web in NOT_WEBS:
            for call in (count_samenesses, plain_web):
                check_error(self, InvalidWeb, call, web)
            for one, other in ((web, WHEEL), (WHEEL, web), (web, web), (web, Web(LETTERS[:8], ())), (Web(LETTERS[:8], ()), web)):
                check_error(self, InvalidWeb, sameness, one, other)
                check_error(self, InvalidWeb, is_sameness, one, other, {})
                check_error(self, InvalidWeb, is_sameness, one, other, None)

    def test_what_is_returned_is_not_shared(self):
        found = sameness(PAIR, PAIR)
        found["a"] = "zz"
        self.assertIn(sameness(PAIR, PAIR), ({"a": "a", "b": "b"}, {"a": "b", "b": "a"}))
        many = held_by_ties(LETTERS[:4])
        many[6] = 0
        self.assertEqual(held_by_ties(LETTERS[:4]), {6: 1})
        names = {"b": "a", "a": "b"}
        is_sameness(PAIR, PAIR, names)
        self.assertEqual(list(names.items()), [("b", "a"), ("a", "b")])


class MainStatementTest(unittest.TestCase):
    def test_behind_a_step_a_held_web_is_held(self):
        for web in tuple(each_held(LETTERS[:5])) + tuple(each_held(LETTERS[:6]))[::60]:
            for a, b in (~web).ties:
                self.assertIs(is_held(web.with_tie(a, b)), True)
            for grown in splits_of(web, "new"):
                self.assertIs(is_held(grown), True)

    def test_a_held_web_that_is_no_wheel_can_spare_a_tie(self):
        for web in tuple(each_held(LETTERS[:5])) + tuple(each_held(LETTERS[:6]))[::20] + tuple(splits_of(FIVE, "new")):
            struck = [tie for tie in web.ties if is_held(web.without_tie(*tie))]
            joined = [tie for tie in web.ties if web.is_thin(*tie) and is_held(web.drawn_together(*tie))]
            self.assertIs(struck + joined == [], is_wheel_web(web))
        self.assertEqual([web for web in SOME_WEBS if is_held(web) and is_wheel_web(web)], [WHEEL, FOUR])


if __name__ == "__main__":
    unittest.main()
