"""Every name of the interface stands in the file under which the document lists it, with its parameters."""

import importlib
import inspect
import unittest

CONSTANTS = {
    "wheelgrown.base.words": {"MAX_LETTERS": 8, "MAX_FIGURES": 60},
    "wheelgrown.base.webs": {"MAX_PLACES": 16, "MAX_TIES": 60},
    "wheelgrown.count.webs": {"MAX_NAMED": 6, "MAX_ALIKE": 7},
    "wheelgrown.count.growths": {"MAX_WEBS": 500},
    "wheelgrown.within.models": {"MAX_SOUGHT": 8},
    "wheelgrown.use.bench": {"MAX_PLEDGES": 10},
}
FUNCTIONS = {
    "wheelgrown.base.words": (
        "is_integer(value)", "is_count(value)", "is_name(value)", "are_names(value)", "is_naming(names, value)"),
    "wheelgrown.base.webs": ("full_web(places)", "ring_web(ring)"),
    "wheelgrown.base.wheels": (
        "plain_ring(ring)", "is_plain(value)", "is_ring(web, value)", "is_bare(web, ring)", "each_ring(web, size)",
        "count_rings(web, size)", "is_wheel(value)", "wheel_web(wheel)", "wheels_of(web)", "is_wheel_web(web)"),
    "wheelgrown.part.partings": (
        "is_parting(web, value)", "all_partings(web)", "least_parting(web)", "held_level(web)", "is_held(web)",
        "cut_places(web)", "all_blocks(web)", "block_with(web, a, b)", "block_web(web, block)", "block_doors(web)"),
    "wheelgrown.part.ways": (
        "ways_apart(web, a, b)", "count_ways(web, a, b)", "is_ways(web, a, b, value)", "is_most_ways(web, a, b, value)",
        "least_gate(web, a, b)", "is_gate(web, a, b, value)", "is_least_gate(web, a, b, value)", "three_ways(web, a, b)",
        "ring_through(web, a, b)", "weakest(web)"),
    "wheelgrown.grow.steps": (
        "is_step(web, value)", "web_behind(web, step)", "is_last_step(web, value)", "web_ahead(web, step)", "tie_steps(web)",
        "split_steps(web, new)", "last_steps(web)", "renamed_step(step, names)"),
    "wheelgrown.grow.growths": ("is_growth(web, value)",),
    "wheelgrown.grow.papers": ("paper(web)", "is_paper(web, value)", "growth_of(web)", "is_grown(web)"),
    "wheelgrown.grow.spare": (
        "struck_ties(web)", "joined_ties(web)", "spare_steps(web)", "is_spare_step(web, value)", "is_lean(web)", "lean_web(web)",
        "is_lean_within(web, value)"),
    "wheelgrown.tree.parts": ("is_whole_block(web)", "is_tree_of(web, value)"),
    "wheelgrown.tree.whole": (
        "whole_of(web)", "is_whole(web, value)", "joined_whole(value)", "count_kinds(web)", "held_parts(web)", "held_web(web, places)",
        "part_growths(web)", "is_told(web, value)", "is_loose(web)", "least_changes(web)"),
    "wheelgrown.draw.drawings": ("drawing_of(web)", "is_drawable(web)"),
    "wheelgrown.draw.bars": ("bar_of(web)", "is_bar(web, value)", "side_rings(web)"),
    "wheelgrown.draw.carried": (
        "drawn_wheel(wheel)", "carried(drawing, step)", "carried_back(drawing, step)", "drawings_along(growth)", "lost_at(growth)",
        "dual_web(drawing)", "dual_drawing(drawing)"),
    "wheelgrown.count.growths": (
        "count_growths(web)", "each_growth(web)", "growth_at(web, number)", "number_of(web, value)", "least_spokes(web)",
        "most_spokes(web)"),
    "wheelgrown.count.webs": (
        "each_held(places)", "count_held(places)", "held_by_ties(places)", "sameness(one, other)",
        "is_sameness(one, other, value)", "count_samenesses(web)", "plain_web(web)", "held_kinds(places)"),
    "wheelgrown.within.models": (
        "is_model(web, small, value)", "model_in(web, small)", "model_along(growth)", "joined_models(web, middle, small, outer, inner)",
        "four_of(web)", "is_four(web, value)", "peeling_of(web)", "is_peeling(web, value)"),
    "wheelgrown.text.texts": (
        "write_web(web)", "read_web(text)", "write_step(step)", "read_step(text)", "write_growth(growth)", "read_growth(text)",
        "write_paper(paper)", "read_paper(text)"),
}
# For each class its methods, its class methods, its properties, and what else it must define itself.
CLASSES = {
    ("wheelgrown.base.webs", "Web"): (
        ("__init__(self, places, ties)", "neighbours(self, place)", "common(self, a, b)", "is_tied(self, a, b)", "with_tie(self, a, b)",
         "without_tie(self, a, b)", "with_place(self, name)", "without_places(self, places)", "drawn_together(self, a, b)",
         "is_thin(self, a, b)", "renamed(self, names)"),
        ("from_lines(cls, *lines)", "of_ties(cls, *ties)"),
        ("places", "ties", "lines", "lots", "hangs"),
        ("__add__", "__sub__", "__invert__", "__contains__", "__len__", "__iter__", "__eq__", "__str__")),
    ("wheelgrown.grow.growths", "Growth"): (
        ("__init__(self, wheel, steps)", "web_at(self, count)", "__call__(self, count)", "cut(self, count)", "grown(self, *steps)",
         "renamed(self, names)", "swapped(self, index)"),
        (),
        ("wheel", "steps", "web", "spokes"),
        ("__contains__", "__len__", "__iter__", "__eq__", "__str__")),
    ("wheelgrown.tree.parts", "PartTree"): (
        ("__init__(self, parts, doors)", "__getitem__(self, index)", "sides(self, index)", "part_web(self, index)", "beside(self, index)",
         "part_with(self, a, b)", "parts_at(self, place)", "renamed(self, names)"),
        ("of_web(cls, web)",),
        ("parts", "doors", "joined", "parting_pairs"),
        ("__contains__", "__len__", "__iter__", "__eq__", "__str__")),
    ("wheelgrown.draw.drawings", "Drawing"): (
        ("__init__(self, web, turns)", "rim_along(self, a, b)", "is_like(self, value)"),
        (),
        ("web", "turns", "rims"),
        ("__invert__", "__contains__", "__len__", "__iter__", "__eq__", "__str__")),
    ("wheelgrown.use.bench", "Bench"): (
        ("__init__(self, web)", "draw(self, line)", "erase(self, line)", "grow(self, step)", "shrink(self, step)", "join(self, a, b)",
         "demand(self, pledge)", "waive(self, pledge)", "undo(self, *, many=1)", "redo(self, *, many=1)", "trial(self)",
         "during(self, call)", "twin(self)"),
        (),
        ("web", "level", "pledges"),
        ("__contains__", "__len__", "__iter__", "__eq__", "__str__")),
    ("wheelgrown.text.shell", "Shell"): (
        ("__init__(self, text)", "__call__(self, line)", "answer(self, line)", "bench(self)"),
        (),
        (),
        ("__len__",)),
}


class InterfaceTest(unittest.TestCase):
    def test_constants(self):
        for module, values in CONSTANTS.items():
            for name, value in values.items():
                self.assertEqual(getattr(importlib.import_module(module), name), value)

    def test_functions(self):
        for module, heads in FUNCTIONS.items():
            for head in heads:
                function = getattr(importlib.import_module(module), head.split("(")[0])
                self.assertEqual(function.__module__, module)
                self.assertEqual(function.__name__ + str(inspect.signature(function)), head)

    def test_classes(self):
        for (module, name), (methods, made, properties, others) in CLASSES.items():
            kind = getattr(importlib.import_module(module), name)
            own = vars(kind)
            self.assertEqual((kind.__module__, kind.__name__), (module, name))
            for head in methods:
                self.assertEqual(head.split("(")[0] + str(inspect.signature(own[head.split("(")[0]])), head)
            for head in made:
                self.assertIsInstance(own[head.split("(")[0]], classmethod)
                self.assertEqual(head.split("(")[0] + str(inspect.signature(own[head.split("(")[0]].__func__)), head)
            for word in properties:
                self.assertIsInstance(own[word], property, word)
            for word in others:
                self.assertTrue(callable(own[word]), word)


if __name__ == "__main__":
    unittest.main()
