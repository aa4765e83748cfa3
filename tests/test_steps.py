"""Promises [0.13], [0.15], [0.17] and stage 6: steps."""

import random
import unittest
from itertools import combinations, islice, permutations

from tests.force import ahead, all_webs, behind, forms_of_steps, is_held_by_force, random_webs
from tests.samples import APART, BOW, FIVE, FOUR, GLUED, LETTERS, NOT_NAMES, NOT_WEBS, ODD, ODD_TUPLES, PAIR, PRISM, SINGLE
from tests.samples import SOME_WEBS, WHEEL, bent, check_error, nested
from wheelgrown.base.webs import Web, full_web, ring_web
from wheelgrown.errors import InvalidOperation, InvalidPlace, InvalidStep, InvalidWeb
from wheelgrown.grow.steps import is_last_step, is_step, last_steps, renamed_step, split_steps, tie_steps, web_ahead, web_behind

SMALL_WEBS = tuple(all_webs("a")) + tuple(all_webs("ab")) + tuple(all_webs("abc")) + tuple(all_webs("abcd"))
DRAWN = tuple(all_webs("abcde"))[::29] + tuple(random_webs(random.Random(11), 25, 5, 6))
# A hub with fourteen neighbours, and room for one place more.
STAR = Web.of_ties(*[("a", place) for place in LETTERS[1:15]])
SIXTY = Web(LETTERS[:16], tuple(combinations(LETTERS[:16], 2))[:60])
STEPS = (
    ("tie", "a", "b"), ("tie", "a", "c"), ("split", "h", "k", ("a", "b")), ("split", "a", "d", ("e", "f")),
    ("split", "a", "z", ("b", "c", "d")),
)
NO_STEPS = ODD + ODD_TUPLES + (
    (), ("tie",), ("tie", "a"), ("tie", "a", "b", "c"), ("tie", "c", "a"), ("tie", "a", "a"), ("tie", "a", "B"), ("Tie", "a", "c"),
    ("tie", ("a", "c")), ["tie", "a", "c"], ("tie", "a", ["c"]), ("tie", WHEEL, "c"), (WHEEL, "a", "c"), WHEEL, "tie a c",
    ("split",), ("split", "h", "k"), ("split", "h", "k", ()), ("split", "h", "k", ("a",)), ("split", "h", "k", ("b", "a")),
    ("split", "h", "k", ["a", "b"]), ("split", "h", "k", ("a", "a")), ("split", "h", "h", ("a", "b")), ("split", "h", "k", "ab"),
    ("split", "h", "k", ("a", "h")), ("split", "h", "k", ("a", "k")), ("split", "h", "k", ("a", "b"), ()), ("split", "h", "K", ("a", "b")),
    ("split", "h", None, ("a", "b")), ("split", None, "k", ("a", "b")), ("split", "h", "k", ("a", None)), ("split", "h", "k", ("a", WHEEL)),
    ["split", "h", "k", ("a", "b")], ("split", "h", "k", (("a",), "b")), ("tie", "h", "k", ("a", "b")), ("split", "a", "c"),
)


def same(one, told):
    """Whether a web has the places and the ties that are told."""
    return (list(one.places), list(one.ties)) == told


class ExamplesTest(unittest.TestCase):
    def test_split(self):
        step = ("split", "h", "k", ("a", "b"))
        grown = web_behind(WHEEL, step)
        self.assertEqual(
            [str(grown), grown.neighbours("k"), grown.neighbours("h"), web_ahead(grown, step) == WHEEL,
             is_step(WHEEL, ("split", "a", "k", ("b", "d")))],
            ["web of 6 places, 9 ties", ("a", "b", "h"), ("c", "d", "k"), True, False])

    def test_generators_and_names(self):
        self.assertEqual(
            [list(tie_steps(WHEEL)), len(list(split_steps(WHEEL, "k"))), len(last_steps(PRISM)),
             renamed_step(("tie", "a", "b"), {"a": "z", "b": "y"})],
            [[("tie", "a", "c"), ("tie", "b", "d")], 6, 15, ("tie", "y", "z")])


class StepsTest(unittest.TestCase):
    def test_all_steps_against_force(self):
        for web in SMALL_WEBS + DRAWN + (WHEEL, FIVE, GLUED, BOW, PRISM):
            news = ("kk", "aa", "zzzzzzzz")
            forms = forms_of_steps(web.places, news + web.places[:2])
            right = [step for step in forms if behind(web, step) is not None]
            self.assertEqual([step for step in forms if is_step(web, step)], right)
            self.assertEqual(list(tie_steps(web)), [step for step in right if step[0] == "tie"])
            for new in news:
                self.assertEqual(list(split_steps(web, new)), [step for step in right if step[0] == "split" and step[2] == new])
            for step in right:
                self.assertTrue(same(web_behind(web, step), behind(web, step)))
            for step in [step for step in forms if step not in right][::7]:
                check_error(self, InvalidStep, web_behind, web, step)

    def test_all_last_steps_against_force(self):
        for web in SMALL_WEBS + DRAWN + (WHEEL, FIVE, GLUED, BOW, PRISM):
            forms = forms_of_steps(web.places, web.places)
            right = [step for step in forms if ahead(web, step) is not None]
            self.assertEqual(last_steps(web), tuple(right))
            self.assertEqual([step for step in forms if is_last_step(web, step)], right)
            for step in right:
                self.assertEqual(web_ahead(web, step), ahead(web, step))
            for step in [step for step in forms if step not in right][::7]:
                check_error(self, InvalidStep, web_ahead, web, step)

    def test_there_and_back(self):
        for web in SOME_WEBS + DRAWN[:20] + (STAR,):
            news = "new" if "new" not in web.places else "other"
            for step in list(tie_steps(web)) + list(islice(split_steps(web, news), 40)):
                grown = web_behind(web, step)
                self.assertIs(is_last_step(grown, step), True)
                self.assertIn(step, last_steps(grown))
                self.assertEqual(web_ahead(grown, step), web)
                self.assertEqual(len(grown.ties), len(web.ties) + 1)
                if step[0] == "split":
                    self.assertIs(grown.is_thin(step[1], step[2]), True)
                    self.assertEqual(grown.drawn_together(step[1], step[2]), web)

    def test_splits_of_places_with_three_four_and_many_neighbours(self):
        self.assertEqual([step for step in split_steps(WHEEL, "k") if step[1] != "h"], [])
        self.assertEqual([step[3] for step in split_steps(WHEEL, "k")], list(combinations("abcd", 2)))
        moved = [step[3] for step in split_steps(STAR, "z")]
        self.assertEqual(len(moved), 2 ** 14 - 2 * (1 + 14))
        self.assertTrue(all(one < other for one, other in zip(moved, moved[1:])))
        self.assertEqual({len(names) for names in moved}, set(range(2, 13)))
        self.assertIs(is_step(STAR, ("split", "a", "z", LETTERS[1:13])), True)
        self.assertIs(is_step(STAR, ("split", "a", "z", LETTERS[1:14])), False)
        self.assertIs(is_step(STAR, ("split", "a", "z", LETTERS[1:15])), False)
        self.assertIs(is_step(STAR, ("split", "a", "z", ("b",))), False)
        self.assertIs(is_step(STAR, ("split", "b", "z", ("a", "c"))), False)
        grown = web_behind(STAR, ("split", "a", "z", LETTERS[1:13]))
        self.assertEqual((grown.neighbours("a"), grown.neighbours("z")), (("n", "o", "z"), ("a",) + LETTERS[1:13]))

    def test_names_of_new_places(self):
        for new in ("a", "b", "c", "d", "h"):
            self.assertIs(is_step(WHEEL, ("split", "h", new, tuple(sorted({"a", "b", "c"} - {new}))[:2])), False)
        for new in ("k", "aa", "zzzzzzzz"):
            self.assertIs(is_step(WHEEL, ("split", "h", new, ("a", "b"))), True)
        for new in ("K", "", "abcdefghi", "k1", None, 1, ("k",)):
            self.assertIs(is_step(WHEEL, ("split", "h", new, ("a", "b"))), False)

    def test_sixteen_places(self):
        wheel = Web.of_ties(*[("a", place) for place in LETTERS[1:16]]) + ring_web(LETTERS[1:16])
        self.assertIs(is_step(wheel, ("split", "a", "z", ("b", "c"))), False)
        self.assertEqual(list(split_steps(wheel, "z")), [])
        self.assertIs(is_step(wheel, ("tie", "b", "d")), True)
        self.assertEqual(len(list(tie_steps(wheel))), 120 - 30)
        check_error(self, InvalidPlace, list_of, split_steps, wheel, "a")

    def test_sixty_ties(self):
        self.assertEqual((len(SIXTY), len(SIXTY.ties)), (16, 60))
        fifteen = Web(LETTERS[:12], tuple(combinations(LETTERS[:12], 2))[:60])
        for web in (SIXTY, fifteen):
            self.assertEqual((list(tie_steps(web)), list(split_steps(web, "z"))), ([], []))
            for step in forms_of_steps(web.places[:6], ("z",)):
                self.assertIs(is_step(web, step), False)
                check_error(self, InvalidStep, web_behind, web, step)
        less = fifteen.without_tie("a", "b")
        self.assertIs(is_step(less, ("tie", "a", "b")), True)
        self.assertEqual(web_behind(less, ("tie", "a", "b")), fifteen)
        self.assertEqual(len(web_behind(less, ("split", "c", "z", ("a", "b"))).ties), 60)
        self.assertEqual(len([step for step in last_steps(fifteen) if step[0] == "tie"]), 60)

    def test_last_steps_of_webs_that_are_not_held(self):
        self.assertEqual(last_steps(SINGLE), ())
        self.assertEqual(last_steps(APART), ())
        self.assertEqual(last_steps(PAIR), (("tie", "a", "b"),))
        two = Web.of_ties(("a", "b"), ("a", "c"), ("a", "d"), ("b", "e"), ("b", "f"))
        self.assertEqual(last_steps(two)[:2], (("split", "a", "b", ("e", "f")), ("split", "b", "a", ("c", "d"))))
        self.assertEqual(str(web_ahead(two, ("split", "a", "b", ("e", "f")))), "web of 5 places, 4 ties")
        self.assertIs(is_last_step(GLUED, ("tie", "a", "b")), True)

    def test_a_tie_that_is_not_thin_cannot_be_split(self):
        self.assertIs(is_last_step(PRISM, ("split", "a", "b", ("c", "e"))), False)
        self.assertIs(is_last_step(PRISM, ("split", "a", "d", ("e", "f"))), True)
        for moved in (("b", "c"), ("b", "e"), ("e",), ("a", "e", "f"), ("e", "f", "z"), ("f", "e"), ["e", "f"]):
            self.assertIs(is_last_step(PRISM, ("split", "a", "d", moved)), False)

    def test_webs_are_unchanged(self):
        before = (WHEEL.places, WHEEL.ties)
        step = ("split", "h", "k", ("a", "b"))
        web_ahead(web_behind(WHEEL, step), step)
        check_error(self, InvalidStep, web_behind, WHEEL, ("tie", "a", "b"))
        self.assertEqual((WHEEL.places, WHEEL.ties), before)


def list_of(generator, *passed):
    return list(generator(*passed))


class GeneratorsTest(unittest.TestCase):
    def test_errors_come_with_the_first_result(self):
        for web in NOT_WEBS:
            for made in (tie_steps(web), split_steps(web, "k"), split_steps(web, None)):
                check_error(self, InvalidWeb, next, made)
        for new in NOT_NAMES:
            if new != "z":
                check_error(self, InvalidPlace, next, split_steps(FOUR, new))
        for new in ("a", "b", "c", "d"):
            check_error(self, InvalidPlace, next, split_steps(FOUR, new))
        check_error(self, InvalidPlace, next, split_steps(SIXTY, "a"))

    def test_a_few_results_only(self):
        self.assertEqual(list(islice(split_steps(STAR, "z"), 3)),
                         [("split", "a", "z", ("b", "c")), ("split", "a", "z", ("b", "c", "d")), ("split", "a", "z", ("b", "c", "d", "e"))])
        for _ in range(300):
            self.assertEqual(next(split_steps(STAR, "z")), ("split", "a", "z", ("b", "c")))
            self.assertEqual(next(tie_steps(STAR)), ("tie", "b", "c"))


class WrongTest(unittest.TestCase):
    def test_values_that_are_no_steps(self):
        for value in NO_STEPS + (("tie", "a", "z"), ("tie", "aa", "h"), ("tie", "x", "z"), ("split", "z", "k", ("a", "b")), ("split", "h", "k", ("a", "z"))):
            self.assertIs(is_step(WHEEL, value), False)
            self.assertIs(is_last_step(WHEEL, value), False)
            check_error(self, InvalidStep, web_behind, WHEEL, value)
            check_error(self, InvalidStep, web_ahead, WHEEL, value)

    def test_bent_steps(self):
        right = set(tie_steps(WHEEL)) | {step for new in ("k", "z") for step in split_steps(WHEEL, new)}
        last = set(last_steps(PRISM))
        for step in STEPS:
            for value in bent(step):
                known = value if is_hashable(value) else None
                self.assertIs(is_step(WHEEL, value), known in right, value)
                self.assertIs(is_last_step(PRISM, value), known in last, value)

    def test_no_webs(self):
        for web in NOT_WEBS:
            for value in STEPS[:3] + (None, nested(8)):
                for call in (is_step, is_last_step, web_behind, web_ahead):
                    check_error(self, InvalidWeb, call, web, value)
            check_error(self, InvalidWeb, last_steps, web)


def is_hashable(value):
    try:
        return hash(value) is not None
    except TypeError:
        return False


class RenamedTest(unittest.TestCase):
    NAMES = {"h": "b", "k": "c", "a": "z", "b": "y", "c": "h", "more": "a"}

    def test_steps_with_other_names(self):
        self.assertEqual(renamed_step(("split", "h", "k", ("a", "b")), self.NAMES), ("split", "b", "c", ("y", "z")))
        self.assertEqual(renamed_step(("tie", "a", "h"), self.NAMES), ("tie", "b", "z"))
        self.assertEqual(renamed_step(("tie", "a", "c"), {"c": "a", "a": "c"}), ("tie", "a", "c"))
        self.assertEqual(list(self.NAMES.items()), list({"h": "b", "k": "c", "a": "z", "b": "y", "c": "h", "more": "a"}.items()))

    def test_steps_stay_steps(self):
        for order in list(permutations(("a", "k", "c", "x", "h", "z")))[::37]:
            names = dict(zip(("a", "b", "c", "d", "h", "new"), order))
            web = WHEEL.renamed({place: names[place] for place in WHEEL.places})
            for step in list(tie_steps(WHEEL)) + list(split_steps(WHEEL, "new")):
                told = renamed_step(step, names)
                self.assertIs(is_step(web, told), True)
                grown = web_behind(WHEEL, step)
                self.assertEqual(web_behind(web, told), grown.renamed({place: names[place] for place in grown.places}))

    def test_values_that_are_not_like_a_step(self):
        for value in NO_STEPS:
            check_error(self, InvalidStep, renamed_step, value, {})
            check_error(self, InvalidStep, renamed_step, value, {"a": "a"})
        for step in STEPS:
            for value in bent(step):
                if value not in STEPS and not is_hashable(value):
                    check_error(self, InvalidStep, renamed_step, value, None)

    def test_wrong_names(self):
        wrong = (
            {"a": "x"}, {"b": "x"}, {"a": "x", "b": "x"}, {"a": "x", "b": "Y"}, {"a": "x", "b": None}, {"a": "x", "b": "y", "c": "y"},
            {"a": "x", "b": "y", 1: "z"}, {"a": "x", "b": "y", "C": "z"}, {"a": "x", "b": "y", "c": 1}, {"a": "x", "b": "y", ("c",): "z"},
            {"a": "x", "b": "y", None: "z"}, {"a": "x", "b": ["y"]}, {"a": "x", "b": "y", "c": ("z",)}, {"a": "x", "b": "y", True: "z"},
            [("a", "x"), ("b", "y")], (("a", "x"), ("b", "y")), "ab",
        )
        for names in wrong + tuple(value for value in NOT_WEBS if value != {"a": "b", "b": "a"}):
            check_error(self, InvalidOperation, renamed_step, ("tie", "a", "b"), names)
        for missing in ("a", "b", "c", "d"):
            names = {name: name for name in ("a", "b", "c", "d", "e") if name != missing}
            check_error(self, InvalidOperation, renamed_step, ("split", "a", "b", ("c", "d")), names)
        self.assertEqual(renamed_step(("tie", "a", "b"), {"a": "b", "b": "a"}), ("tie", "a", "b"))


class HeldTest(unittest.TestCase):
    def test_behind_steps_held_webs_are_held(self):
        for web in [web for web in all_webs("abcde") if is_held_by_force(web)] + [PRISM, FOUR]:
            for step in list(tie_steps(web)) + list(split_steps(web, "new")):
                self.assertTrue(is_held_by_force(web_behind(web, step)))


if __name__ == "__main__":
    unittest.main()
