"""The examples of the document, one below the other, to be looked at value by value."""

WEBS = r"""
WHEEL = Web.from_lines("tie a b", "tie b c", "tie c d", "tie a d", "tie a h", "tie b h", "tie c h", "tie d h")
PRISM = Web.of_ties(("a", "b"), ("a", "c"), ("b", "c"), ("d", "e"), ("d", "f"), ("e", "f"), ("a", "d"), ("b", "e"), ("c", "f"))
FIVE = full_web(("a", "b", "c", "d", "e"))
GLUED = full_web(("a", "b", "c", "d")) + full_web(("a", "b", "e", "f"))
"""

EXAMPLES = r"""
>>> [is_integer(-7), is_count(True), is_name("ab1"), are_names(()), are_names(("b", "a", "b")), is_naming(("a", "b"), {"a": "b", "b": "a"})]
[True, False, False, True, True, True]

>>> [str(WHEEL), WHEEL.places, WHEEL.neighbours("a"), PRISM.common("a", "b"), GLUED.lots, (GLUED - ("a", "b")).lots]
['web of 5 places, 8 ties', ('a', 'b', 'c', 'd', 'h'), ('b', 'd', 'h'), ('c',), (('a', 'b', 'c', 'd', 'e', 'f'),), (('c', 'd'), ('e', 'f'))]
>>> [PRISM.is_thin("a", "d"), PRISM.is_thin("a", "b"), PRISM.drawn_together("a", "d").places, len(PRISM.drawn_together("a", "b").ties)]
[True, False, ('a', 'b', 'c', 'e', 'f'), 7]
>>> [(~WHEEL).lines, ("a", "c") in WHEEL, "h" in WHEEL, list(full_web(("p", "q", "r"))), ring_web(("b", "a", "c")) == full_web(("a", "b", "c"))]
[('place h', 'tie a c', 'tie b d'), False, True, [('p', 'q'), ('p', 'r'), ('q', 'r')], True]

>>> [plain_ring(("c", "d", "a", "b")), is_plain(("a", "c", "b")), is_ring(WHEEL, ("b", "h", "a")), is_bare(PRISM, ("a", "b", "e", "d"))]
[('a', 'b', 'c', 'd'), False, True, True]
>>> [list(each_ring(PRISM, 4)), count_rings(FIVE, 5), wheels_of(WHEEL), len(wheels_of(full_web(("a", "b", "c", "d"))))]
[[('a', 'b', 'e', 'd'), ('a', 'c', 'f', 'd'), ('b', 'c', 'f', 'e')], 12, (('h', ('a', 'b', 'c', 'd')),), 4]
>>> [wheel_web(("h", ("a", "b", "c", "d"))) == WHEEL, is_wheel(("h", ("a", "c", "b"))), is_wheel_web(PRISM)]
[True, False, False]

>>> BOW = ring_web(("a", "b", "c")) + Web.of_ties(("c", "d"), ("c", "e"), ("d", "e"), ("e", "f"))
>>> [all_partings(GLUED), least_parting(BOW), held_level(FIVE), is_parting(BOW, ("c", "e")), is_held(full_web(("a", "b", "c")))]
[(('a', 'b'),), ('c',), 3, True, False]
>>> [cut_places(BOW), all_blocks(BOW), block_with(BOW, "e", "d"), str(block_web(BOW, ("e", "f"))), block_doors(BOW)[:2]]
[('c', 'e'), (('a', 'b', 'c'), ('c', 'd', 'e'), ('e', 'f')), ('c', 'd', 'e'), 'web of 2 places, 1 ties', (('c', ('a', 'b', 'c')), ('c', ('c', 'd', 'e')))]

>>> [ways_apart(PRISM, "a", "e"), count_ways(GLUED, "a", "b"), least_gate(GLUED, "c", "f"), least_gate(GLUED, "b", "a")]
[(('a', 'b', 'e'), ('a', 'c', 'f', 'e'), ('a', 'd', 'e')), 5, ('a', 'b'), ('c', 'd', 'e', 'f')]
>>> [is_ways(PRISM, "a", "d", (("a", "d"),)), is_gate(PRISM, "a", "d", ()), three_ways(GLUED, "c", "e"), ring_through(BOW, "a", "d"), ring_through(BOW, "b", "a")]
[True, False, None, None, ('a', 'b', 'c')]

>>> step = ("split", "h", "k", ("a", "b"))
>>> grown = web_behind(WHEEL, step)
>>> [str(grown), grown.neighbours("k"), grown.neighbours("h"), web_ahead(grown, step) == WHEEL, is_step(WHEEL, ("split", "a", "k", ("b", "d")))]
['web of 6 places, 9 ties', ('a', 'b', 'h'), ('c', 'd', 'k'), True, False]
>>> [list(tie_steps(WHEEL)), len(list(split_steps(WHEEL, "k"))), len(last_steps(PRISM)), renamed_step(("tie", "a", "b"), {"a": "z", "b": "y"})]
[[('tie', 'a', 'c'), ('tie', 'b', 'd')], 6, 15, ('tie', 'y', 'z')]

>>> growth = Growth(("h", ("a", "b", "c", "d")), (("split", "h", "k", ("a", "b")), ("tie", "a", "c")))
>>> [str(growth), str(growth.web), growth(0) == WHEEL, growth.spokes, growth.swapped(0).steps[0], [len(web.ties) for web in growth]]
['growth of 2 steps from 4 spokes', 'web of 6 places, 10 ties', True, 4, ('tie', 'a', 'c'), [8, 9, 10]]
>>> [is_growth(PRISM, (("a", ("b", "c", "f", "e")), (("split", "a", "d", ("e", "f")),))), is_growth(PRISM, (("a", ("b", "c", "f", "e")), ()))]
[True, False]

>>> [paper(GLUED), is_paper(GLUED, ("parted", ("a", "b"))), paper(WHEEL), paper(full_web(("p", "q"))), is_grown(PRISM)]
[('parted', ('a', 'b')), True, ('grown', ('h', ('a', 'b', 'c', 'd')), ()), ('small', 2), True]
>>> [growth_of(FIVE).web == FIVE, growth_of(PRISM).spokes, is_paper(PRISM, ("parted", ("a", "b"))), paper(FIVE)[0]]
[True, 4, False, 'grown']
>>> growth_of(GLUED)
raises Parted

>>> [struck_ties(WHEEL), len(joined_ties(WHEEL)), struck_ties(FIVE) == FIVE.ties, len(joined_ties(PRISM)), joined_ties(full_web(("a", "b", "c", "d")))]
[(), 4, True, 3, ()]
>>> [spare_steps(WHEEL), len(spare_steps(PRISM)), is_spare_step(PRISM, ("split", "a", "d", ("e", "f"))), is_lean(PRISM), len(lean_web(FIVE).ties)]
[(), 6, True, True, 8]

>>> glued = PartTree.of_web(GLUED)
>>> [str(glued), glued[0], glued[1][:2], glued.doors, glued.part_with("e", "b"), glued.parting_pairs]
['tree of 3 parts, 2 doors', ('bundle', ('a', 'b'), (('a', 'b'),)), ('held', ('a', 'b', 'c', 'd')), ((('a', 'b'), 0, 1), (('a', 'b'), 0, 2)), 2, (('a', 'b'),)]
>>> kite = PartTree.of_web(ring_web(("a", "b", "c", "d", "e")).with_tie("a", "c"))
>>> [[part[:2] for part in kite], kite.sides(0), kite.beside(1), kite.parting_pairs, len(PartTree.of_web(FIVE))]
[[('ring', ('a', 'b', 'c')), ('bundle', ('a', 'c')), ('ring', ('a', 'c', 'd', 'e'))], (('a', 'b'), ('a', 'c'), ('b', 'c')), (0, 2), (('a', 'c'), ('a', 'd'), ('c', 'e')), 1]

>>> [[triple[0] for triple in whole_of(BOW)], whole_of(BOW)[2], joined_whole(whole_of(BOW)) == BOW, count_kinds(BOW)]
[[('a', 'b', 'c'), ('c', 'd', 'e'), ('e', 'f')], (('e', 'f'), (), ()), True, {'bundle': 0, 'held': 0, 'place': 0, 'ring': 2, 'tie': 1}]
>>> [held_parts(GLUED), held_web(GLUED, ("a", "b", "e", "f")) == full_web(("a", "b", "e", "f")), is_loose(BOW), least_changes(GLUED), least_changes(BOW)]
[(('a', 'b', 'c', 'd'), ('a', 'b', 'e', 'f')), True, True, (0, 2), (2, 0)]

>>> drawing = drawing_of(WHEEL)
>>> [str(drawing), len(drawing.turns["h"]), (~drawing).is_like(drawing), side_rings(WHEEL)[0], is_drawable(FIVE), len(side_rings(FIVE))]
['drawing with 5 rims', 4, True, ('a', 'b', 'c', 'd'), False, 10]
>>> pair = full_web(("a", "b"))
>>> [Drawing(pair, {"a": ("b",), "b": ("a",)}).rims, bar_of(PRISM), is_bar(FIVE, ("five", FIVE.places, FIVE.ties)), bar_of(FIVE)[0]]
[(('a', 'b'),), None, True, 'five']

>>> first = drawn_wheel(("h", ("a", "b", "c", "d")))
>>> [first.turns["h"], first.rims[0], carried(first, ("tie", "a", "c")).turns["a"], carried(first, ("split", "h", "k", ("a", "c")))]
[('a', 'b', 'c', 'd'), ('a', 'b', 'c', 'd'), ('b', 'h', 'd', 'c'), None]
>>> later = carried(first, ("split", "h", "k", ("a", "b")))
>>> [len(later), carried_back(later, ("split", "h", "k", ("a", "b"))) == first, str(dual_web(first)), lost_at(growth_of(FIVE)), lost_at(growth)]
[5, True, 'web of 5 places, 8 ties', 1, None]

>>> [count_growths(web) for web in (WHEEL, PRISM, FIVE, GLUED, full_web(("a", "b", "c", "d")))]
[1, 6, 30, 0, 4]
>>> [list(each_growth(PRISM))[0], growth_at(FIVE, 29)[1], number_of(PRISM, list(each_growth(PRISM))[5]), most_spokes(FIVE), least_spokes(FIVE)]
[(('a', ('b', 'c', 'f', 'e')), (('split', 'a', 'd', ('e', 'f')),)), (('tie', 'b', 'c'), ('tie', 'd', 'e')), 5, 4, 4]

>>> triangle = full_web(("x", "y", "z"))
>>> [is_model(WHEEL, triangle, {"x": ("a", "b"), "y": ("h",), "z": ("c", "d")}), model_in(ring_web(("a", "b", "c", "d")), full_web(("p", "q", "r", "s")))]
[True, None]
>>> growth = Growth(("h", ("a", "b", "c", "d")), (("split", "h", "k", ("a", "b")),))
>>> model_along(growth)
{'a': ('a',), 'b': ('b',), 'c': ('c',), 'd': ('d',), 'h': ('h', 'k')}
>>> [is_four(PRISM, (("a",), ("b",), ("c",), ("d", "e", "f"))), four_of(ring_web(("a", "b", "c"))), peeling_of(PRISM), is_peeling(ring_web(("a", "b", "c", "d")), ("a", "c", "b", "d"))]
[True, None, None, True]
>>> joined_models(growth.web, WHEEL, triangle, model_along(growth), {"x": ("a", "b"), "y": ("h",), "z": ("c", "d")})
{'x': ('a', 'b'), 'y': ('h', 'k'), 'z': ('c', 'd')}

>>> [count_held(("a", "b", "c", "d")), count_held(("a", "b", "c", "d", "e")), held_by_ties(("a", "b", "c", "d", "e")), len(held_kinds(("a", "b", "c", "d", "e")))]
[1, 26, {8: 15, 9: 10, 10: 1}, 3]
>>> [count_samenesses(WHEEL), count_samenesses(PRISM), sameness(WHEEL, PRISM), plain_web(ring_web(("a", "c", "b", "d"))).ties]
[8, 12, None, (('a', 'b'), ('a', 'c'), ('b', 'd'), ('c', 'd'))]

>>> bench = Bench(WHEEL)
>>> [bench.demand(("held",)), bench.grow(("split", "h", "k", ("a", "b"))), bench.level, str(bench), bench.during(lambda same: same.waive(("held",)))]
[(), (), 3, 'bench of 6 places, 9 ties, 1 pledges', ()]
>>> bench.erase("tie h k")
raises Refused
>>> [bench.waive(("held",)), bench.erase("tie h k"), bench.level, bench.demand(("ways", "h", "k", 2)), bench.undo(many=2), ("held",) in bench, bench.join("h", "k")]
[(), (3, 2), 2, (), (2, 3), False, ()]

>>> [read_web("tie b a\nplace c").lines, write_step(("split", "h", "k", ("a", "b"))), read_step("tie a b"), write_paper(("parted", ()))]
[('place c', 'tie a b'), 'split h k with a b', ('tie', 'a', 'b'), 'parted -']
>>> [write_growth((("h", ("a", "b", "c", "d")), (("tie", "a", "c"),))), read_paper("grown\nwheel h of a b c d"), read_paper("small 2")]
['wheel h of a b c d\ntie a c', ('grown', ('h', ('a', 'b', 'c', 'd')), ()), ('small', 2)]

>>> shell = Shell(write_web(PRISM))
>>> [shell("level"), shell("ways a e"), shell("wheel"), shell("demand held"), shell("shrink split a d with e f"), shell("wheel"), shell("erase tie a b"), shell("struck")]
['3', '3', 'no', 'nothing', 'nothing', 'yes', 'refused held', 'nothing']
>>> [shell("undo"), shell("lots"), shell("blocks"), shell("three a e"), shell("peeling"), shell("growths"), shell("undo"), shell("undo"), shell("join a a"), len(shell)]
['nothing', 'a b c d e f', 'a b c d e f', 'a b e; a c f e; a d e', 'none', '6', 'nothing', 'undo', 'tie', 14]
"""
