"""The whole document: all of its examples, the main statements [0.16] to [0.22], and that all stages tell one thing of one web."""

import importlib
import random
import unittest
from itertools import combinations

from tests.examples import EXAMPLES, WEBS
from tests.force import all_webs, held_web_of, is_held_by_force, lots_without, most_ways_of, partings_of, random_webs, routes_of
from tests.force_parts import is_loose_by_force
from tests.samples import APART, BOW, FIVE, FOUR, GLUED, LETTERS, PAIR, PRISM, SINGLE, WHEEL
from tests.test_all_growths import UNEVEN
from tests.test_drawings import HOUSES, triangulated
from tests.test_interface import CLASSES, CONSTANTS, FUNCTIONS
from tests.test_parts import BOOK, CHAIN, GROWN, KITE_WEB, THETA
from tests.test_shell import rows_of
from tests.test_spare import GREAT, GREATER, LEAN_BY_THREE, SIX, WHEELS
from tests.test_whole import MIXED
from wheelgrown import errors
from wheelgrown.base.webs import Web, full_web, ring_web
from wheelgrown.base.wheels import is_bare, is_wheel_web
from wheelgrown.count.growths import count_growths, each_growth, least_spokes, most_spokes, number_of
from wheelgrown.draw.bars import bar_of, is_bar, side_rings
from wheelgrown.draw.carried import drawings_along, dual_web, lost_at
from wheelgrown.draw.drawings import drawing_of, is_drawable
from wheelgrown.errors import Refused, TooMany
from wheelgrown.grow.growths import is_growth
from wheelgrown.grow.papers import growth_of, is_grown, is_paper, paper
from wheelgrown.grow.spare import is_lean, joined_ties, spare_steps, struck_ties
from wheelgrown.grow.steps import split_steps, tie_steps, web_ahead, web_behind
from wheelgrown.part.partings import all_blocks, all_partings, block_web, held_level, is_held, least_parting
from wheelgrown.part.ways import count_ways, three_ways, weakest
from wheelgrown.text.shell import Shell
from wheelgrown.text.texts import read_growth, read_paper, read_web, write_growth, write_paper, write_web
from wheelgrown.tree.parts import PartTree, is_whole_block
from wheelgrown.tree.whole import count_kinds, held_parts, held_web, is_loose, joined_whole, least_changes, whole_of
from wheelgrown.use.bench import Bench
from wheelgrown.within.models import four_of, is_four, is_model, is_peeling, model_along, model_in, peeling_of

FEW = tuple(all_webs("a")) + tuple(all_webs("ab")) + tuple(all_webs("abc")) + tuple(all_webs("abcd"))[::2] + tuple(all_webs("abcde"))[::23]
NAMED = (WHEEL, PRISM, FIVE, GLUED, BOW, FOUR, SINGLE, PAIR, APART, HOUSES, BOOK, CHAIN, KITE_WEB, THETA, MIXED, UNEVEN)
DRAWN = tuple(random_webs(random.Random(101), 60, 5, 8)) + GROWN[::6]
HELD = (FOUR, WHEEL, PRISM, FIVE, HOUSES, UNEVEN) + SIX[::3] + GREATER + WHEELS[3::4] + LEAN_BY_THREE[:3]
ALL = FEW + NAMED + DRAWN + HELD + GREAT[:1]


def names_of_the_interface():
    """All names that can stand in an example."""
    found = {name: getattr(errors, name) for name in dir(errors) if name[0].isupper()}
    for module, heads in FUNCTIONS.items():
        for head in heads:
            name = head.split("(")[0]
            found[name] = getattr(importlib.import_module(module), name)
    for module, name in CLASSES:
        found[name] = getattr(importlib.import_module(module), name)
    return found


class ExamplesTest(unittest.TestCase):
    def test_all_examples(self):
        names = names_of_the_interface()
        exec(WEBS, names)
        lines = [line for line in EXAMPLES.splitlines() if line]
        looked_at = 0
        for index, line in enumerate(lines):
            after = lines[index + 1] if index + 1 < len(lines) else ">>> "
            if not line.startswith(">>> "):
                continue
            if after.startswith(">>> "):
                exec(line[4:], names)
            elif after.startswith("raises "):
                with self.assertRaises(names[after[7:]]) as caught:
                    eval(line[4:], names)
                self.assertIs(caught.exception.__class__, names[after[7:]])
                looked_at += 1
            else:
                self.assertEqual(repr(eval(line[4:], names)), after, line)
                looked_at += 1
        self.assertEqual(looked_at, len([line for line in lines if not line.startswith(">>> ")]))
        self.assertEqual(looked_at, 43)

    def test_constants_of_all_stages(self):
        self.assertEqual({name: value for values in CONSTANTS.values() for name, value in values.items()}, {
            "MAX_LETTERS": 8, "MAX_FIGURES": 60, "MAX_PLACES": 16, "MAX_TIES": 60, "MAX_WEBS": 500, "MAX_SOUGHT": 8, "MAX_NAMED": 6,
            "MAX_ALIKE": 7,
            "MAX_PLEDGES": 10})


class MainStatementsTest(unittest.TestCase):
    def test_just_one_of_three(self):
        # [0.16]
        for web in ALL:
            told = paper(web)
            self.assertIs(is_paper(web, told), True)
            small, parted, grown = len(web) < 4, len(web) >= 4 and partings_of(web) != (), is_grown(web)
            self.assertEqual([small, parted, grown].count(True), 1)
            self.assertEqual(told[0], "small" if small else "parted" if parted else "grown")
            self.assertIs(is_held(web), grown)

    def test_steps_and_ways_back(self):
        # [0.17]
        source = random.Random(102)
        for web in HELD:
            steps = list(tie_steps(web)) + list(split_steps(web, "new"))
            for step in source.sample(steps, min(6, len(steps))):
                self.assertTrue(is_held_by_force(web_behind(web, step)))
            self.assertIs(spare_steps(web) == (), is_wheel_web(web))
            self.assertTrue(all(is_held_by_force(web_ahead(web, step)) for step in spare_steps(web)))

    def test_ties_that_can_be_drawn_together(self):
        # [0.18]
        for web in HELD + GREAT:
            if len(web) >= 5:
                self.assertGreaterEqual(2 * len(joined_ties(web)), len(web))

    def test_three_ways(self):
        # [0.19]
        for web in [web for web in ALL if 4 <= len(web) <= 7]:
            three = all(most_ways_of(routes_of(web, a, b)) >= 3 for a,
                b in combinations(web.places, 2)) if len(web.ties) < 12 else is_held_by_force(web)
            self.assertIs(is_held(web), three)
            self.assertIs(all(three_ways(web, a, b) is not None for a, b in combinations(web.places, 2)), three)
            self.assertIs(count_ways(web, *weakest(web)) >= 3, three)

    def test_trees(self):
        # [0.20]
        source = random.Random(103)
        for web in ALL:
            self.assertEqual(joined_whole(whole_of(web)), web)
            names = dict(zip(web.places, source.sample(web.places, len(web))))
            renamed = web.renamed(names)
            self.assertEqual(joined_whole(whole_of(renamed)), renamed)
            self.assertEqual(held_parts(renamed), tuple(sorted(tuple(sorted(names[x] for x in part)) for part in held_parts(web))))
            for block, parts, doors in whole_of(web):
                if len(block) > 2:
                    tree = PartTree(parts, doors)
                    self.assertEqual((tree.joined, tree.renamed({x: names[x] for x in block})),
                                     (block_web(web, block), PartTree.of_web(block_web(renamed, tuple(sorted(names[x] for x in block))))))

    def test_drawings_and_bars(self):
        # [0.21]
        for web in [web for web in ALL if len(lots_without(web, ())) == 1]:
            drawing, bar = drawing_of(web), bar_of(web)
            self.assertEqual([drawing is None, bar is None].count(True), 1)
            self.assertTrue(bar is None or is_bar(web, bar))
            if drawing is not None and is_held(web):
                plain = [rim if rim[1] < rim[-1] else rim[:1] + rim[:0:-1] for rim in drawing]
                self.assertEqual(sorted(plain), list(side_rings(web)))
                self.assertTrue(all(is_bare(web, rim) and len(lots_without(web, rim)) <= 1 for rim in drawing))
                growth = growth_of(web)
                self.assertTrue(drawings_along(growth)[-1].is_like(drawing))

    def test_what_is_not_true(self):
        # [0.22]
        self.assertEqual([least_spokes(web) for web in (WHEEL, PRISM, FIVE)], [4, 4, 4])
        self.assertNotEqual(least_spokes(UNEVEN), most_spokes(UNEVEN))
        self.assertGreater(len({len(steps) for _, steps in each_growth(UNEVEN)}), 1)
        self.assertTrue(any(set(struck_ties(web)) - set(joined_ties(web)) for web in HELD))
        one, other = full_web(("a", "b", "c", "d")), full_web(("a", "b", "e", "f"))
        self.assertEqual((is_held(one), is_held(other), is_held(one + other)), (True, True, False))
        self.assertTrue(all(not is_held(PRISM.without_places((place,))) for place in PRISM.places))
        self.assertTrue(is_whole_block(BOOK))
        kinds = [tie for tie in BOOK.ties if "a" in tie and "b" not in tie]
        turns = drawing_of(BOOK).turns
        self.assertEqual(len(kinds), 4)
        swapped = {place: {"c": "d", "d": "c"}.get(place, place) for place in BOOK.places}
        other = {swapped[place]: tuple(swapped[x] for x in turn) for place, turn in turns.items()}
        self.assertFalse(drawing_of(BOOK).is_like(drawing_of(BOOK).__class__(BOOK, other)))


class OneThingOfOneWebTest(unittest.TestCase):
    def held_so(self, web):
        """What each stage tells of whether the web is held."""
        bench, shell = Bench(web), Shell(write_web(web))
        yield is_held(web)
        yield least_parting(web) is None and len(web) >= 4
        yield all_partings(web) == () and len(web) >= 4
        yield paper(web)[0] == "grown"
        yield shell("paper").startswith("grown; ")
        yield bench.level == 3 and len(web) >= 4
        yield shell("demand held") == "nothing"
        yield shell("struck") != "operation"
        yield [triple[1] for triple in whole_of(web)] == [(("held", web.places, web.ties),)]
        yield least_changes(web) == (0, 0) and count_kinds(web)["held"] == 1 and web.hangs
        yield len(web) >= 4 and count_ways(web, *weakest(web)) >= 3

    def test_held(self):
        for web in ALL:
            self.assertEqual(set(self.held_so(web)), {is_held_by_force(web)})

    def test_levels(self):
        for web in ALL:
            least = least_parting(web)
            self.assertEqual(held_level(web), 3 if least is None else len(least))
            shell = Shell(write_web(web))
            self.assertEqual((shell("level"), Bench(web).level), (str(held_level(web)), held_level(web)))
            for count in (1, 2, 3):
                self.assertEqual(shell(f"demand level {count}"), "nothing" if count <= held_level(web) else f"refused level {count}")

    def loose_so(self, web):
        """What each stage tells of whether the web has no held part."""
        shell = Shell(write_web(web))
        yield is_loose(web)
        yield held_parts(web) == ()
        yield four_of(web) is None
        yield peeling_of(web) is not None
        yield shell("demand loose") == "nothing"
        yield shell("four") == "none"
        yield count_kinds(web)["held"] == 0
        if len(web) <= 8:
            yield model_in(web, FOUR) is None

    def test_loose(self):
        for web in ALL:
            self.assertEqual(set(self.loose_so(web)), {is_loose_by_force(web)})
            shell = Shell(write_web(web))
            if four_of(web) is not None:
                self.assertTrue(is_four(web, rows_of(shell("four"))))
                spots = dict(zip(FOUR.places, four_of(web)))
                self.assertIs(is_model(web, FOUR, spots), True)
            else:
                self.assertTrue(is_peeling(web, tuple(shell("peeling").split(" "))))

    def drawable_so(self, web):
        """What each stage tells of whether a web that hangs together has a drawing."""
        yield is_drawable(web)
        yield bar_of(web) is None
        yield Shell(write_web(web))("drawable") == "yes"
        yield Shell(write_web(web))("demand drawable") == "nothing"
        yield all(is_drawable(block_web(web, block)) for block in all_blocks(web))
        # A web can be drawn just if its held parts can.
        yield all(is_drawable(held_web(web, places)) for places in held_parts(web))
        if len(web) <= 8:
            yield model_in(web, FIVE) is None and model_in(web, HOUSES) is None
        if is_held(web):
            yield lost_at(growth_of(web)) is None

    def test_drawable(self):
        for web in ALL:
            if web.hangs:
                self.assertEqual(len(set(self.drawable_so(web))), 1)
            else:
                self.assertEqual(Shell(write_web(web))("drawable"), "operation")
                with self.assertRaises(Refused):
                    Bench(web).demand(("drawable",))

    def test_growths(self):
        for web in HELD + GREAT[:1]:
            growth = growth_of(web)
            pair = (growth.wheel, growth.steps)
            self.assertTrue(is_growth(web, pair) and growth.web == web)
            self.assertIs(is_model(web, growth(0), model_along(growth)), True)
            self.assertEqual((read_growth(write_growth(pair)), read_paper(write_paper(paper(web))), read_web(write_web(web))),
                (pair, paper(web), web))
            bench = Bench(growth(0))
            bench.demand(("held",))
            self.assertEqual([bench.grow(step) for step in growth.steps], [()] * len(growth))
            self.assertEqual(bench.web, web)
            self.assertEqual([bench.shrink(step) for step in growth.steps[::-1]], [()] * len(growth))
            self.assertEqual(bench.web, growth(0))
            try:
                self.assertLess(number_of(web, pair), count_growths(web))
            except TooMany as error:
                self.assertEqual(error.limit, 500)

    def test_what_is_spared(self):
        for web in HELD[::2]:
            shell = Shell(write_web(web))
            self.assertEqual((rows_of(shell("struck")), rows_of(shell("joined"))), (struck_ties(web), joined_ties(web)))
            bench = Bench(web)
            bench.demand(("held",))
            for a, b in web.ties:
                for change, held in ((lambda same: same.erase(f"tie {a} {b}"), (a, b) in struck_ties(web)),
                        (lambda same: same.join(a, b), (a, b) in joined_ties(web))):
                    if held:
                        self.assertEqual(bench.during(change), ())
                    else:
                        with self.assertRaises(Refused):
                            bench.during(change)
            self.assertIs(is_lean(web), shell("struck") == "nothing")

    def test_duals(self):
        for web in [web for web in HELD if is_drawable(web)] + [triangulated(random.Random(104), 9)]:
            drawing = drawing_of(web)
            if len(drawing) <= 16:
                dual = dual_web(drawing)
                self.assertTrue(is_held(dual) and is_drawable(dual) and len(drawing_of(dual)) == len(web))

    def test_webs_on_a_bench(self):
        source = random.Random(105)
        web = held_web_of(source, 9, 16)
        shell = Shell(write_web(web))
        shell("demand held")
        for a, b in source.sample(list(combinations(web.places, 2)), 12):
            shell(f"erase tie {a} {b}")
            shell(f"draw tie {a} {b}")
            shell(f"join {a} {b}")
            here = shell.bench().web
            self.assertTrue(is_held_by_force(here))
            self.assertEqual(read_web("\n".join(shell("lines").split("; "))), here)
            self.assertIs(is_paper(here, read_paper("\n".join(shell("paper").split("; ")))), True)
        self.assertEqual(ring_web(LETTERS[:3]), full_web(LETTERS[:3]))
        self.assertEqual(Web(("a",), ()), SINGLE)


if __name__ == "__main__":
    unittest.main()
