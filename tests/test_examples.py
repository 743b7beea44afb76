"""The examples of DOC.md, with the results and the errors that stand there."""

from aliasrows import beside, errors, needless, orders, rows, samenesses, sure, tables
from tests.helper import Case

EXAMPLES = r'''
>>> table = (("a", "b", "c", "d"), (("a", "b"),), (("b", "c"),))
>>> is_table(table), is_table((("a", "b"), (("a", "b"),), (("a", "b"),))), is_table((("a", "b"), (("b", "a"),), ())), is_table(((), (), ())), lumps(table), lump_of(table, "b"), names_of(table)
(True, False, False, False, (('a', 'b'), ('c',), ('d',)), ('a', 'b'), ('a', 'b', 'c', 'd'))
>>> surely_one(table, "a", "b"), surely_apart(table, "a", "c"), may_be_one(table, "a", "d"), may_be_one(table, "c", "a"), surely_one(table, "d", "d"), told_of(table, "c", "d"), told_of(table, "a", "c"), maybe_with(table, "a"), open_pairs(table)
(True, True, True, False, True, 'open', 'apart', ('b', 'd'), (('a', 'd'), ('b', 'd'), ('c', 'd')))
>>> with_name(table, "aa")[0], without_name(table, "b"), with_one(table, "d", "c")[1], with_apart(table, "d", "a")[2], without_pair(table, "c", "b")[2]
(('a', 'aa', 'b', 'c', 'd'), (('a', 'c', 'd'), (), ()), (('a', 'b'), ('c', 'd')), (('a', 'd'), ('b', 'c')), ())
>>> renamed(table, (("a", "z"), ("q", "b"))), filled(table), same_tables(table, filled(table)), same_tables(table, without_pair(table, "b", "c"))
((('b', 'c', 'd', 'z'), (('b', 'z'),), (('b', 'c'),)), (('a', 'b', 'c', 'd'), (('a', 'b'),), (('a', 'c'), ('b', 'c'))), True, False)
>>> with_one(table, "a", "c")
raises Unfit()
>>> with_apart(table, "b", "a")
raises Unfit()
>>> may_be_one(table, "a", "x")
raises NoName(name='x')
>>> table = (("a", "b", "c", "d"), (("a", "b"),), (("b", "c"),))
>>> all_samenesses(table), finest(table), coarsest(table), how_many_samenesses(table)
([(('a', 'b'), ('c',), ('d',)), (('a', 'b'), ('c', 'd')), (('a', 'b', 'd'), ('c',))], (('a', 'b'), ('c',), ('d',)), [(('a', 'b'), ('c', 'd')), (('a', 'b', 'd'), ('c',))], 3)
>>> nth_sameness(table, 1), number_of_sameness(table, (("a", "b", "d"), ("c",))), [how_many_with(table, many) for many in range(5)], fewest_cells(table), a_fewest(table)
((('a', 'b'), ('c', 'd')), 2, [0, 0, 2, 1, 0], 2, (('a', 'b'), ('c', 'd')))
>>> is_sameness(table, (("a", "b"), ("c", "d"))), is_sameness(table, (("a", "b", "c"), ("d",))), is_sameness(table, (("a", "b"), ("c",))), is_sameness(table, (("c", "d"), ("a", "b")))
(True, False, False, False)
>>> cell_of(table, (("a", "b"), ("c", "d")), "c"), are_one(table, (("a", "b"), ("c", "d")), "a", "d"), joined_by(table, ("a", "d")), can_join(table, ("a", "c")), can_join(table, ("c", "d")), great_joins(table)
(('c', 'd'), False, (('a', 'b', 'd'), ('c',)), False, True, [('a', 'b', 'd'), ('c', 'd')])
>>> near, far = (("a", "b"), ("c", "d")), (("a", "b", "d"), ("c",))
>>> met(near, far), lies_within(met(near, far), near), lies_within(near, far), put_as_one(table, near, far), put_as_one(table, near, finest(table)), between(table, finest(table), far)
((('a', 'b'), ('c',), ('d',)), True, False, None, (('a', 'b'), ('c', 'd')), [(('a', 'b'), ('c',), ('d',)), (('a', 'b', 'd'), ('c',))])
>>> nth_sameness(table, 3)
raises NoNumber(number=3)
>>> joined_by(table, ("b", "c", "d"))
raises CanNot()
>>> cell_of(table, near, "x")
raises NoName(name='x')
>>> table = (("a", "b", "c", "d"), (("a", "b"),), (("b", "c"),))
>>> row = (("put", "a", 5), ("get", "d", "s"), ("put", "c", 7), ("get", "b", "t"), ("put", "d", 7))
>>> near, far, apart = (("a", "b"), ("c", "d")), (("a", "b", "d"), ("c",)), (("a", "b"), ("c",), ("d",))
>>> outcome(table, row, far), outcome(table, row, near), outcome(table, row, apart) == outcome(table, row, near)
(((('s', 5), ('t', 5)), (('a', 7), ('b', 7), ('c', 7), ('d', 7))), ((('t', 5),), (('a', 5), ('b', 5), ('c', 7), ('d', 7))), True)
>>> told_at(table, row, far, "s"), told_at(table, row, near, "s"), left_at(table, row, near, "a"), left_along(table, row[:2], far), read_from(table, row, far, "s"), read_from(table, row, near, "s"), left_from(table, row, near, "c"), lost_puts(table, row, near)
(5, None, 5, ((), (('a', 5), ('b', 5), ('d', 5)), (('a', 5), ('b', 5), ('d', 5))), 0, None, 4, (2,))
>>> how_many_outcomes(table, row), all_outcomes(table, row)[0] == outcome(table, row, far), samenesses_for(table, row, outcome(table, row, near)) == [apart, near], all_outcomes(table, ())
(2, True, True, [((), ())])
>>> is_row(table, row), is_row(table, row[:1] * 2), is_row(table, (("get", "a", "s"), ("get", "b", "s"))), is_row(table, (("put", "x", 1),)), is_row(table, (("put", "a", None),)), is_row(table, ())
(True, True, False, False, False, True)
>>> names_in(row), spots_of(row), puts_of(row), gets_of(row), without_places(row, (1, 3)), beginnings(row)[1], row_behind(row[:1], (("get", "c", "s"),))
(('a', 'b', 'c', 'd'), ('s', 't'), (0, 2, 4), (1, 3), (('put', 'a', 5), ('put', 'c', 7), ('put', 'd', 7)), (('put', 'a', 5),), (('put', 'a', 5), ('get', 'c', 's')))
>>> told_at(table, row, far, "u")
raises NoSpot(spot='u')
>>> row_behind(row, row[1:2])
raises Unfit()
>>> table, row = (("a", "b", "c", "d"), (("a", "b"),), (("b", "c"),)), (("put", "d", 1), ("put", "a", 2), ("get", "d", "s"), ("get", "c", "t"), ("put", "b", 3))
>>> seen_at(table, row, "s"), seen_at(table, row, "t"), seen_left(table, row, "d"), empty_at(table, row, "s"), empty_at(table, row, "t"), empty_left(table, row, "c")
((0, 1), (0,), (0, 4), False, True, True)
>>> values_at(table, row, "s"), values_at(table, row, "t"), values_left(table, row, "a"), values_left(table, row, "c"), sure_spots(table, row), sure_names(table, row), sure_told(table, row)
((1, 2), (None, 1), (3,), (None, 1), (), ('a', 'b'), ((), (('a', 3), ('b', 3))))
>>> spots_seeing(table, row, 0), names_seeing(table, row, 0), spots_seeing(table, row, 4), names_seeing(table, row, 4), never_seen(table, row), never_seen(table, (("put", "a", 2), ("put", "b", 2)))
(('s', 't'), ('c', 'd'), (), ('a', 'b', 'd'), (), (0,))
>>> tellings(table, row, "s"), tellings(table, row, "t"), how_many_tell(table, row, "s", 2), how_many_tell(table, row, "t", 3)
(((1, 2), (2, 1)), ((None, 2), (1, 1)), 1, 0)
>>> sameness_for(table, row, "s", 2), sameness_for(table, row, "s", 3), sameness_left(table, row, "c", 1), is_sameness_for(table, row, "s", 1, (("a", "b"), ("c", "d"))), is_sameness_for(table, row, "s", 1, (("a", "b", "d"), ("c",))), is_sameness_left(table, row, "a", 3, (("a", "b"), ("c",), ("d",)))
((('a', 'b', 'd'), ('c',)), None, (('a', 'b'), ('c', 'd')), True, False, True)
>>> seen_at(table, row, "d")
raises NoSpot(spot='d')
>>> spots_seeing(table, row, 2)
raises NoNumber(number=2)
>>> table, row = (("a", "b", "c", "d"), (("a", "b"),), (("b", "c"),)), (("put", "d", 1), ("put", "a", 2), ("get", "d", "s"), ("get", "c", "t"), ("put", "b", 3))
>>> second, third = (row[1], row[0], *row[2:]), (*row[:3], row[4], row[3])
>>> same_rows(table, row, second), same_rows(table, row, third), parting(table, row, second), parting(table, row, third), partings(table, row, second), fewest_joined(table, row, second), fewest_joined(table, row, ()), fewest_joined(table, row, third)
(False, True, (('a', 'b', 'd'), ('c',)), None, [(('a', 'b', 'd'), ('c',))], 1, 0, None)
>>> is_parting(table, row, second, (("a", "b"), ("c",), ("d",))), alike_spots(table, row, second), alike_names(table, row, second), unlike_spots(table, row, second), unlike_names(table, row, ()), alike_names(table, row, ())
(False, ('t',), ('a', 'b', 'c', 'd'), (), ('a', 'b', 'd'), ())
>>> loose, late = (("x", "y", "z"), (), ()), (("put", "x", 5), ("put", "y", 6), ("put", "z", 7))
>>> fore, back = (("put", "x", 1), ("put", "y", 2), ("get", "z", "s"), *late), (("put", "y", 2), ("put", "x", 1), ("get", "z", "s"), *late)
>>> fewest_joined(loose, fore, back), partings(loose, fore, back), alike_spots(loose, fore, back), alike_names(loose, fore, back)
(2, [(('x', 'y', 'z'),)], (), ('x', 'y', 'z'))
>>> low, high = (("get", "d", "s"),), (("get", "c", "s"),)
>>> same_rows(table, low, high), same_whatever(table, low, high), same_whatever(table, row, third), parting_ahead(table, row, third), [is_parting_ahead(table, low, high, ahead) for ahead in ((("put", "d", 1),), (("put", "a", 1),), (("put", "c", 1), ("put", "d", 1)), (("get", "d", "s"),))]
(True, False, True, None, [True, True, False, False])
>>> tells_as_much(table, row, second), tells_as_much(table, low, row), untold_pair(table, row, low), is_untold_pair(table, low, row, ((("a", "b"), ("c",), ("d",)), (("a", "b"), ("c", "d"))))
(True, False, None, True)
>>> table, names = (("a", "b", "c", "d"), (("a", "b"),), (("b", "c"),)), ("a", "b", "c", "d")
>>> row_of_order(table, ("d", "a")), pointing_of(table, ("a", "c", "b", "d")), pointing_of(table, ("d", "a")), is_order(table, ("a", "a"))
((('put', 'd', 3), ('put', 'a', 0)), (('b', 'c', 'd'), (('b', 'd'), ('c', 'd'))), (('a', 'd'), (('d', 'a'),)), False)
>>> orders_same(table, ("a", "c", "b", "d"), ("c", "a", "b", "d")), orders_same(table, ("a", "b"), ("b",)), orders_same(table, ("a", "b"), ("b", "a")), is_parting_sameness(table, ("a", "d"), ("d", "a"), (("a", "b", "d"), ("c",))), parting_sameness(table, ("b", "c"), ("c", "b"))
(True, True, False, True, None)
>>> how_many_pointings(table, names), all_pointings(table, ("a", "c")), nth_pointing(table, names, 0), number_of_pointing(table, names, pointing_of(table, names)), number_of_pointing(table, ("a", "d"), (("b", "d"), (("b", "d"),)))
(8, [(('a', 'c'), ())], (('a', 'c', 'd'), (('a', 'd'), ('c', 'd'))), 4, None)
>>> least_order(table, names, pointing_of(table, ("c", "a", "b", "d"))), how_many_orders(table, names, pointing_of(table, names)), least_order(table, ("a",), (("c",), ()))
(('a', 'b', 'c', 'd'), 3, None)
>>> fewest_turns(table, ("a", "c", "b", "d"), ("c", "a", "b", "d")), fewest_turns(table, names, ("b", "a", "c", "d")), free_places(table, ("a", "c", "b", "d")), is_turn_way(table, ("a", "b", "c"), ("c", "a", "b"), turn_way(table, ("a", "b", "c"), ("c", "a", "b")))
(1, None, (0, 1), True)
>>> trio, loose = (("p", "q", "r"), (("p", "q"), ("q", "r")), ()), (("p", "q", "r"), (), ())
>>> orders_same(trio, ("p", "q", "r"), ("q", "p", "r")), how_many_pointings(trio, trio[0]), how_many_pointings(loose, loose[0]), free_places(loose, ("p", "q"))
(True, 3, 6, ())
>>> row_of_order(table, ("a", "x"))
raises NoName(name='x')
>>> nth_pointing(table, names, 8)
raises NoNumber(number=8)
>>> fewest_turns(table, ("a", "b"), ("b",))
raises Unfit()
>>> loose, pair = (("p", "q", "r"), (), ()), (("p", "q"), (("p", "q"),), ())
>>> echo = (("put", "p", 5), ("put", "p", 5), ("get", "p", "s"))
>>> needless_places(loose, echo), can_go(loose, echo, (0, 1)), all_that_go(loose, echo), full_sets(loose, echo), most_gone(loose, echo), least_rest(loose, echo), dearest_gone(loose, echo, (1, 4, 9)), always_stay(loose, echo)
((0, 1), False, [(), (0,), (1,)], [(0,), (1,)], (0,), (('put', 'p', 5), ('get', 'p', 's')), (1,), (2,))
>>> row = (("put", "p", 1), ("put", "p", 2), ("get", "q", "s"), ("get", "q", "t"), ("put", "q", 2))
>>> needless_places(loose, row), twin_spots(loose, row), spare_gets(loose, row), needless_places(pair, row), most_gone(pair, row), least_rest(pair, row)
((0,), (('s', 't'),), (3,), (0, 4), (0, 4), (('put', 'p', 2), ('get', 'q', 's'), ('get', 'q', 't')))
>>> needed_by(pair, row, 4), is_needed_by(loose, row, 4, (("p",), ("q",), ("r",))), is_needed_by(loose, row, 4, (("p", "q"), ("r",))), is_needless(loose, row[2:], 0), most_gone(loose, row[2:])
(None, True, False, True, (0, 1))
>>> swing = (("put", "p", 4), ("put", "p", 3), ("put", "p", 4))
>>> needless_places(loose, swing), all_that_go(loose, swing), full_sets(loose, swing), all_rests(loose, swing), gone_by_turns(loose, swing, (2, 1, 0)), gone_by_turns(loose, swing, (1, 2, 0))
((0, 1), [(), (0,), (0, 1), (1,), (1, 2)], [(0, 1), (1, 2)], [(('put', 'p', 3), ('put', 'p', 4)), (('put', 'p', 4),), (('put', 'p', 4), ('put', 'p', 3), ('put', 'p', 4)), (('put', 'p', 4), ('put', 'p', 4))], (0, 1), (1, 2))
>>> is_needless(loose, row, 5)
raises NoNumber(number=5)
'''


def steps(text):
    """Pairs (what is done, what stands below it or None)."""
    lines = text.strip().split("\n")
    for line, below in zip(lines, lines[1:] + [">>>"]):
        if line.startswith(">>> "):
            yield line[4:], None if below.startswith(">>>") else below


class Examples(Case):
    def test_examples(self):
        known = {}
        for module in (errors, tables, samenesses, rows, sure, beside, orders, needless):
            known.update(vars(module))
        looked = 0
        for done, below in steps(EXAMPLES):
            with self.subTest(done):
                if below is None:
                    exec(done, known)
                elif below.startswith("raises "):
                    wanted = eval(below[7:], known)
                    self.refused(type(wanted), eval, done, known, **vars(wanted))
                else:
                    self.assertEqual(repr(eval(done, known)), below)
                looked += 1
        self.assertEqual(looked, EXAMPLES.count(">>>"))
