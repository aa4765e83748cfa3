"""Promises [0.7], [0.8], [0.15], [2.1] and stage 2: webs."""

import random
import unittest
from itertools import combinations

from tests.force import all_webs, lots_of, random_webs
from tests.samples import APART, FIVE, FOUR, GLUED, LETTERS, NOT_NAMES, NOT_TUPLES, NOT_WEBS, ODD, ODD_TUPLES
from tests.samples import PAIR, PRISM, SINGLE, SOME_WEBS, WHEEL, check_error, nested
from wheelgrown.base.webs import MAX_PLACES, MAX_TIES, Web, full_web, is_route, ring_web
from wheelgrown.errors import InvalidOperation, InvalidPlace, InvalidTie, InvalidWeb, ParseError, TooMany, UnknownName

PAIRS = tuple(combinations(LETTERS[:16], 2))
SIXTY = Web(LETTERS[:16], PAIRS[:60])
NOT_PLACES = tuple(value for value in NOT_NAMES if value not in ("a", "b")) + ("z", "abcdefgh", ("a", "b"))


def look(web):
    """All that can be read off a web, made anew."""
    return (web.places, web.ties, web.lines, web.lots, web.hangs, str(web), len(web), list(web))


class ExamplesTest(unittest.TestCase):
    def test_places_and_lots(self):
        self.assertEqual(
            [str(WHEEL), WHEEL.places, WHEEL.neighbours("a"), PRISM.common("a", "b"), GLUED.lots,
             (GLUED - ("a", "b")).lots],
            ["web of 5 places, 8 ties", ("a", "b", "c", "d", "h"), ("b", "d", "h"), ("c",),
             (("a", "b", "c", "d", "e", "f"),), (("c", "d"), ("e", "f"))])

    def test_thin_ties(self):
        self.assertEqual(
            [PRISM.is_thin("a", "d"), PRISM.is_thin("a", "b"), PRISM.drawn_together("a", "d").places,
             len(PRISM.drawn_together("a", "b").ties)],
            [True, False, ("a", "b", "c", "e", "f"), 7])

    def test_operators(self):
        self.assertEqual(
            [(~WHEEL).lines, ("a", "c") in WHEEL, "h" in WHEEL, list(full_web(("p", "q", "r"))),
             ring_web(("b", "a", "c")) == full_web(("a", "b", "c"))],
            [("place h", "tie a c", "tie b d"), False, True, [("p", "q"), ("p", "r"), ("q", "r")], True])


class MakingTest(unittest.TestCase):
    def test_constants(self):
        self.assertEqual((MAX_PLACES, MAX_TIES), (16, 60))

    def test_limits(self):
        self.assertEqual(Web(("a",), ()).places, ("a",))
        self.assertEqual(Web(("abcdefgh",), ()).places, ("abcdefgh",))
        self.assertEqual(len(Web(LETTERS[:16], ())), 16)
        self.assertEqual(len(SIXTY.ties), 60)
        check_error(self, InvalidWeb, Web, (), ())
        check_error(self, InvalidWeb, Web, ("abcdefghi",), ())
        check_error(self, InvalidWeb, Web, LETTERS[:17], ())
        check_error(self, InvalidWeb, Web, LETTERS[:16], PAIRS[:61])

    def test_wrong_places(self):
        for places in NOT_TUPLES + ODD_TUPLES + (("b", "a"), ("a", "a"), ("a", "b", "b")):
            check_error(self, InvalidWeb, Web, places, ())
            check_error(self, InvalidWeb, Web, places, None)

    def test_wrong_ties(self):
        wrong = (
            (("b", "a"),), (("a", "a"),), (("a", "z"),), (("a", "b"), ("a", "b")), (("b", "c"), ("a", "b")),
            (("a", "b", "c"),), (("a",),), ((),), ("ab",), ("a", "b"), (["a", "b"],), (("a", ["b"]),), (("a", "b"), None),
            [("a", "b")], {("a", "b"): True}, (("a", "B"),), (("a", "b"), ("a", "c"), ("a", 3)), (WHEEL,), (("a", WHEEL),),
        )
        for ties in wrong + NOT_TUPLES + tuple(value for value in ODD_TUPLES):
            check_error(self, InvalidWeb, Web, ("a", "b", "c"), ties)

    def test_it_keeps_what_it_was_told(self):
        web = Web(("a", "b", "c"), (("a", "c"),))
        self.assertEqual((web.places, web.ties), (("a", "b", "c"), (("a", "c"),)))

    def test_from_lines(self):
        self.assertEqual(Web.from_lines("tie b a", "place c", "place a"), Web(("a", "b", "c"), (("a", "b"),)))
        self.assertEqual(Web.from_lines("place z"), Web(("z",), ()))
        self.assertEqual(Web.from_lines("place b", "tie b a", "tie c a"), Web(("a", "b", "c"), (("a", "b"), ("a", "c"))))
        for web in SOME_WEBS:
            self.assertEqual(Web.from_lines(*web.lines), web)
            self.assertEqual(Web.from_lines(*reversed(web.lines)), web)

    def test_wrong_lines(self):
        for line in NOT_NAMES + ("", "place", "tie", "tie a", "place a b", "tie a b c", "tie a a", "place A", "tie a B",
                                 "place  a", " place a", "place a ", "tie a  b", "tie a b ", "place a\n", "tie a\nb", "Place a",
                                 "PLACE a", "Tie a b", "place abcdefghi", "tie a abcdefghi", "place\ta", "a", "a b", "lots a",
                                 "place ab1", "tie a b\ntie c d"):
            check_error(self, ParseError, Web.from_lines, line, number=0)
            check_error(self, ParseError, Web.from_lines, "place a", line, "tie", number=1)

    def test_lines_told_twice(self):
        check_error(self, ParseError, Web.from_lines, "place a", "place b", "place a", number=2)
        check_error(self, ParseError, Web.from_lines, "tie a b", "tie b a", number=1)
        check_error(self, ParseError, Web.from_lines, "tie a b", "place a", "tie a b", "place a", number=2)
        check_error(self, ParseError, Web.from_lines, "tie a b", "place a", "place a", number=2)

    def test_places_with_the_names_of_words(self):
        self.assertEqual(Web.from_lines("tie tie a", "tie place tie", "place place"),
                         Web(("a", "place", "tie"), (("a", "tie"), ("place", "tie"))))

    def test_lines_of_no_web(self):
        check_error(self, InvalidWeb, Web.from_lines)
        places = tuple(f"place {name}" for name in LETTERS[:17])
        check_error(self, InvalidWeb, Web.from_lines, *places)
        self.assertEqual(len(Web.from_lines(*places[:16])), 16)
        ties = tuple(f"tie {b} {a}" for a, b in PAIRS[:61])
        check_error(self, InvalidWeb, Web.from_lines, *ties)
        self.assertEqual(len(Web.from_lines(*ties[:60]).ties), 60)
        check_error(self, ParseError, Web.from_lines, *ties, "tie", number=61)
        check_error(self, ParseError, Web.from_lines, *places, "place a", number=17)

    def test_of_ties(self):
        self.assertEqual(Web.of_ties(("b", "c"), ("a", "b")), Web(("a", "b", "c"), (("a", "b"), ("b", "c"))))
        for web in (WHEEL, PRISM, FIVE, GLUED):
            self.assertEqual(Web.of_ties(*reversed(web.ties)), web)
        check_error(self, InvalidWeb, Web.of_ties)
        self.assertEqual(len(Web.of_ties(*PAIRS[:60]).ties), 60)
        check_error(self, InvalidWeb, Web.of_ties, *PAIRS[:61])
        check_error(self, InvalidWeb, Web.of_ties, *combinations(LETTERS[:17], 2))
        path = tuple(zip(LETTERS[:17], LETTERS[1:17]))
        check_error(self, InvalidWeb, Web.of_ties, *path)

    def test_of_wrong_ties(self):
        wrong = (("b", "a"), ("a", "a"), ("a",), ("a", "b", "c"), ["a", "b"], ("a", "B"), ("a", None), ("a", ["b"]), "ab", ())
        for tie in ODD + ODD_TUPLES + wrong:
            check_error(self, InvalidTie, Web.of_ties, tie)
            check_error(self, InvalidTie, Web.of_ties, ("a", "b"), tie)
        check_error(self, InvalidTie, Web.of_ties, ("a", "b"), ("b", "c"), ("a", "b"))
        check_error(self, InvalidTie, Web.of_ties, *PAIRS, ("a", "b"))

    def test_full_web(self):
        self.assertEqual(full_web(("a",)), SINGLE)
        self.assertEqual(full_web(("a", "c")), Web(("a", "c"), (("a", "c"),)))
        for size in range(1, 12):
            self.assertEqual(full_web(LETTERS[:size]).ties, tuple(combinations(LETTERS[:size], 2)))
        for size in (0, 12, 16, 17):
            check_error(self, InvalidWeb, full_web, LETTERS[:size])
        for places in NOT_TUPLES + ODD_TUPLES + (("b", "a"), ("a", "a")):
            check_error(self, InvalidWeb, full_web, places)

    def test_ring_web(self):
        self.assertEqual(ring_web(("c", "a", "d", "b")).ties, (("a", "c"), ("a", "d"), ("b", "c"), ("b", "d")))
        for size in range(3, 17):
            ring = LETTERS[:size]
            ties = set(zip(ring, ring[1:])) | {(ring[0], ring[-1])}
            self.assertEqual(ring_web(ring), Web(ring, tuple(sorted(ties))))
            self.assertEqual(ring_web(ring[::-1]), ring_web(ring))
        for size in (0, 1, 2, 17):
            check_error(self, InvalidWeb, ring_web, LETTERS[:size])
        for ring in NOT_TUPLES + ODD_TUPLES + (("a", "b", "a"), ("a", "b", "c", "a")):
            check_error(self, InvalidWeb, ring_web, ring)


class LookingTest(unittest.TestCase):
    def test_lines(self):
        self.assertEqual(Web(("a", "b", "c", "d"), (("b", "d"),)).lines, ("place a", "place c", "tie b d"))
        self.assertEqual(SINGLE.lines, ("place a",))
        self.assertEqual(PAIR.lines, ("tie a b",))

    def test_lots_against_force(self):
        webs = SOME_WEBS + tuple(random_webs(random.Random(1), 200, 1, 16)) + tuple(all_webs("abcd"))
        for web in webs:
            self.assertEqual(web.lots, tuple(lots_of(web.places, web.ties)))
            self.assertIs(web.hangs, len(web.lots) == 1)

    def test_lots(self):
        self.assertEqual(APART.lots, (("a",), ("b",)))
        self.assertIs(APART.hangs, False)
        self.assertEqual((SINGLE.lots, SINGLE.hangs), ((("a",),), True))
        web = Web.of_ties(("a", "z"), ("b", "d"), ("c", "y")).with_place("m")
        self.assertEqual(web.lots, (("a", "z"), ("b", "d"), ("c", "y"), ("m",)))

    def test_neighbours_and_ties(self):
        for web in SOME_WEBS:
            for a in web.places:
                near = tuple(b for b in web.places if tuple(sorted((a, b))) in web.ties)
                self.assertEqual(web.neighbours(a), near)
                for b in web.places:
                    self.assertIs(web.is_tied(a, b), b in near)
                    self.assertEqual(web.common(a, b), tuple(c for c in near if c in web.neighbours(b)))

    def test_unknown_places(self):
        for value in NOT_PLACES:
            if value in WHEEL.places:
                continue
            check_error(self, UnknownName, WHEEL.neighbours, value, word=value)
            for call in (WHEEL.common, WHEEL.is_tied, WHEEL.with_tie, WHEEL.without_tie, WHEEL.drawn_together, WHEEL.is_thin):
                check_error(self, UnknownName, call, value, "a", word=value)
                check_error(self, UnknownName, call, "a", value, word=value)
                check_error(self, UnknownName, call, value, "zz", word=value)
                check_error(self, UnknownName, call, value, value, word=value)
            # The places of this web have no neighbours that could be asked for the other place.
            for call in (APART.common, APART.is_tied, APART.with_tie, APART.without_tie, APART.drawn_together, APART.is_thin):
                if value not in APART.places:
                    check_error(self, UnknownName, call, "a", value, word=value)

    def test_holding(self):
        for place in WHEEL.places:
            self.assertIs(place in WHEEL, True)
        for tie in WHEEL.ties:
            self.assertIs(tie in WHEEL, True)
        for value in ODD + ODD_TUPLES + ("z", ("b", "a"), ("a", "c"), ["a", "b"], ("a", "a"), (), ("a",), WHEEL, ("a", WHEEL)):
            self.assertIs(value in WHEEL, False)
            self.assertIs(value not in WHEEL, True)

    def test_equality(self):
        for one in SOME_WEBS:
            for other in SOME_WEBS:
                same = one.places == other.places and one.ties == other.ties
                self.assertIs(one == other, same)
                self.assertIs(one != other, not same)
            self.assertIs(one == Web(one.places, one.ties), True)
            for value in NOT_WEBS + ((one.places, one.ties), one.lines, str(one), len(one)):
                self.assertIs(one == value, False)
                self.assertIs(one != value, True)
                self.assertIs(value == one, False)
        self.assertIs(APART == PAIR, False)

    def test_length_and_walking(self):
        for web in SOME_WEBS:
            self.assertEqual(len(web), len(web.places))
            self.assertEqual(tuple(web), web.ties)
            self.assertEqual(str(web), f"web of {len(web.places)} places, {len(web.ties)} ties")
        self.assertEqual(str(PAIR), "web of 2 places, 1 ties")

    def test_it_cannot_be_set(self):
        for name in ("places", "ties", "lines", "lots", "hangs"):
            with self.assertRaises(AttributeError):
                setattr(Web(("a",), ()), name, ())

    def test_routes(self):
        for route in (("a",), ("a", "b"), ("b", "a"), ("d", "a", "h", "b", "c")):
            self.assertIs(is_route(WHEEL, route), True)
        for value in NOT_WEBS + (("a", "c"), ("a", "b", "a"), ("a", "z"), ["a", "b"], (), WHEEL):
            if value != ("a",):
                self.assertIs(is_route(WHEEL, value), False)


class ChangingTest(unittest.TestCase):
    def test_ties_in_and_out(self):
        for web in SOME_WEBS:
            for a in web.places:
                for b in web.places:
                    tie = tuple(sorted((a, b)))
                    if tie in web.ties:
                        self.assertEqual(web.without_tie(a, b), Web(web.places, tuple(x for x in web.ties if x != tie)))
                        check_error(self, InvalidTie, web.with_tie, a, b)
                    elif a != b:
                        self.assertEqual(web.with_tie(a, b), Web(web.places, tuple(sorted(web.ties + (tie,)))))
                        check_error(self, InvalidTie, web.without_tie, a, b)
                    else:
                        check_error(self, InvalidTie, web.with_tie, a, b)
                        check_error(self, InvalidTie, web.without_tie, a, b)

    def test_too_many_ties(self):
        self.assertFalse(SIXTY.is_tied("o", "p"))
        check_error(self, TooMany, SIXTY.with_tie, "o", "p", limit=60)
        check_error(self, InvalidTie, SIXTY.with_tie, "a", "b")
        check_error(self, InvalidTie, SIXTY.with_tie, "p", "p")
        check_error(self, UnknownName, SIXTY.with_tie, "p", "z", word="z")
        self.assertEqual(len(Web(LETTERS[:16], PAIRS[:59]).with_tie("p", "o").ties), 60)

    def test_places_in(self):
        self.assertEqual(PAIR.with_place("aa"), Web(("a", "aa", "b"), (("a", "b"),)))
        self.assertEqual(len(Web(LETTERS[:15], ()).with_place("z")), 16)
        for name in NOT_NAMES + ("a", "b", "abcdefghi"):
            check_error(self, InvalidPlace, PAIR.with_place, name)
            check_error(self, InvalidPlace, SIXTY.with_place, name)
        check_error(self, TooMany, SIXTY.with_place, "q", limit=16)
        check_error(self, InvalidPlace, SIXTY.with_place, "p")

    def test_places_out(self):
        self.assertEqual(WHEEL.without_places(("h",)), ring_web(("a", "b", "c", "d")))
        self.assertEqual(WHEEL.without_places(("h", "a", "h")), Web(("b", "c", "d"), (("b", "c"), ("c", "d"))))
        self.assertEqual(WHEEL.without_places(()), WHEEL)
        self.assertEqual(WHEEL - ("d", "c", "b", "a"), Web(("h",), ()))

    def test_wrong_places_out(self):
        calls = (WHEEL.without_places, lambda places: WHEEL - places)
        for call in calls:
            for places in NOT_TUPLES:
                check_error(self, InvalidOperation, call, places)
            for value in NOT_PLACES:
                if value not in WHEEL.places:
                    check_error(self, UnknownName, call, (value,), word=value)
                    check_error(self, UnknownName, call, ("a", value, "zz"), word=value)
                    check_error(self, UnknownName, call, WHEEL.places + (value,), word=value)
            check_error(self, InvalidWeb, call, WHEEL.places)
            check_error(self, InvalidWeb, call, WHEEL.places * 2)
        check_error(self, InvalidWeb, SINGLE.without_places, ("a",))

    def test_drawing_together(self):
        for web in SOME_WEBS:
            for a, b in web.ties:
                for kept, gone in ((a, b), (b, a)):
                    ties = {tuple(sorted((kept if x == gone else x, kept if y == gone else y))) for x, y in web.ties}
                    made = web.drawn_together(kept, gone)
                    self.assertEqual(made.places, tuple(x for x in web.places if x != gone))
                    self.assertEqual(made.ties, tuple(sorted(tie for tie in ties if tie[0] != tie[1])))
                    self.assertIs(web.is_thin(kept, gone), len(made.ties) == len(web.ties) - 1)

    def test_no_tie_to_draw_together(self):
        for call in (WHEEL.drawn_together, WHEEL.is_thin):
            for a, b in (("a", "c"), ("c", "a"), ("a", "a")):
                check_error(self, InvalidTie, call, a, b)

    def test_other_names(self):
        names = {"h": "a", "a": "z", "b": "y", "c": "abcdefgh", "d": "w"}
        ties = {tuple(sorted((names[a], names[b]))) for a, b in WHEEL.ties}
        self.assertEqual(WHEEL.renamed(names), Web(tuple(sorted(names.values())), tuple(sorted(ties))))
        self.assertEqual(WHEEL.renamed({place: place for place in "abcdh"}), WHEEL)
        self.assertEqual(APART.renamed({"b": "a", "a": "b"}), APART)

    def test_wrong_names(self):
        wrong = ({"a": "b"}, {"a": "c", "b": "c"}, {"a": "x", "b": "y", "c": "z"}, {"a": "x", "c": "y"}, {"a": "x", "b": "Y"},
                 {"a": "x", "b": ["y"]}, {"a": "x", "b": None}, {"a": "x", 1: "y"}, (("a", "x"), ("b", "y")))
        for names in wrong + tuple(value for value in NOT_NAMES if value != {"a": "b", "b": "a"}):
            check_error(self, InvalidOperation, PAIR.renamed, names)

    def test_sums(self):
        for one in SOME_WEBS:
            for other in SOME_WEBS:
                places = tuple(sorted(set(one.places + other.places)))
                ties = tuple(sorted(set(one.ties + other.ties)))
                if len(places) <= 16 and len(ties) <= 60:
                    self.assertEqual(one + other, Web(places, ties))
                else:
                    with self.assertRaises(InvalidWeb):
                        one + other

    def test_limits_of_sums(self):
        many = Web(LETTERS[:16], ())
        self.assertEqual(many + Web(("p",), ()), many)
        check_error(self, InvalidWeb, many.__add__, Web(("q",), ()))
        check_error(self, InvalidWeb, SIXTY.__add__, Web(("o", "p"), (("o", "p"),)))

    def test_sums_with_no_web(self):
        for value in NOT_WEBS:
            with self.assertRaises(TypeError):
                WHEEL + value
            with self.assertRaises(TypeError):
                value + WHEEL

    def test_turned_over(self):
        for web in SOME_WEBS:
            pairs = tuple(pair for pair in combinations(web.places, 2) if pair not in web.ties)
            if len(pairs) <= 60:
                self.assertEqual(~web, Web(web.places, pairs))
                if len(web.ties) <= 60:
                    self.assertEqual(~~web, web)
            else:
                check_error(self, TooMany, web.__invert__, limit=60)
        self.assertEqual(~SINGLE, SINGLE)
        self.assertEqual(~APART, PAIR)

    def test_limits_of_turning_over(self):
        self.assertEqual(len((~SIXTY).ties), 60)
        check_error(self, TooMany, Web(LETTERS[:16], PAIRS[:59]).__invert__, limit=60)
        self.assertEqual(len((~Web(LETTERS[:12], PAIRS[:6])).ties), 60)
        check_error(self, TooMany, Web(LETTERS[:12], PAIRS[:5]).__invert__, limit=60)


class UnchangedTest(unittest.TestCase):
    def test_elder_webs_stay(self):
        for web in SOME_WEBS:
            before = look(web)
            a, b = web.places[0], web.places[-1]
            calls = (
                lambda: web.with_tie(a, b), lambda: web.without_tie(a, b), lambda: web.with_place("zzz"),
                lambda: web.without_places((a,)), lambda: web.drawn_together(a, b), lambda: web.drawn_together(b, a),
                lambda: web.renamed({place: place + "x" for place in web.places}), lambda: web + PRISM, lambda: ~web,
                lambda: web - (b, "0"), lambda: web.without_places(web.places), lambda: web.is_thin(a, b), lambda: 1 in web,
            )
            for call in calls:
                try:
                    made = call()
                except (InvalidTie, InvalidPlace, InvalidWeb, InvalidOperation, TooMany, UnknownName):
                    made = None
                self.assertEqual(look(web), before)
                self.assertIsNot(made, web)

    def test_arguments_stay(self):
        names = {"b": "x", "a": "y"}
        PAIR.renamed(names)
        self.assertEqual(list(names.items()), [("b", "x"), ("a", "y")])
        made = PAIR.renamed(names)
        names["a"] = "q"
        self.assertEqual(made, Web(("x", "y"), (("x", "y"),)))
        wrong = [["a"], {"b": [1]}]
        check_error(self, UnknownName, PAIR.neighbours, wrong, word=[["a"], {"b": [1]}])
        check_error(self, InvalidOperation, PAIR.without_places, wrong)
        self.assertEqual(wrong, [["a"], {"b": [1]}])

    def test_the_first_error_is_raised(self):
        check_error(self, UnknownName, PAIR.with_tie, nested(8), None, word=nested(8))
        check_error(self, UnknownName, PAIR.without_tie, "z", "y", word="z")
        check_error(self, UnknownName, PAIR.with_tie, "b", True, word=True)
        check_error(self, ParseError, Web.from_lines, 7, "tie", "place a", "place a", number=0)
        check_error(self, InvalidTie, Web.of_ties, ("a", "b"), ("a", "b"), None)
        self.assertEqual(FOUR, full_web(("a", "b", "c", "d")))


if __name__ == "__main__":
    unittest.main()
