"""The examples of DOC.md, with the results and the errors that stand there."""

from aliasrows import errors, rows, samenesses, tables
from tests.helper import Case

EXAMPLES = r'''
>>> table = (("a", "b", "c", "d"), (("a", "b"),), (("b", "c"),))
>>> is_table(table), is_table((("a", "b"), (("a", "b"),), (("a", "b"),))), is_table((("a", "b"), (("b", "a"),), ())), is_table(((), (), ())), lumps(table), lump_of(table, "b"), names_of(table)
(True, False, False, False, (('a', 'b'), ('c',), ('d',)), ('a', 'b'), ('a', 'b', 'c', 'd'))
>>> surely_one(table, "a", "b"), surely_apart(table, "a", "c"), may_be_one(table, "a", "d"), may_be_one(table, "c", "a"), surely_one(table, "d", "d"), told_of(table, "c", "d"), told_of(table, "a", "c"), maybe_with(table, "a"), open_pairs(table)
(True, True, True, False, True, 'open', 'apart', ('b', 'd'), (('a', 'd'), ('b', 'd'), ('c', 'd')))
>>> with_name(table, "aa")[0], without_name(table, "b"), with_one(table, "d", "c")[1], with_apart(table, "d", "a")[2], without_pair(table, "c", "b")[2]
(('a', 'aa', 'b', 'c', 'd'), (('a', 'c', 'd'), (), ()), (('a', 'b'), ('c', 'd')), (('a', 'd'), ('b', 'c')), ())
>>> renamed(table, (("a", "z"), ("q", "b"))), filled(table), same_tables(table, filled(table)), same_tables(table, without_pair(table, "b", "c"))
((('b', 'c', 'd', 'z'), (('b', 'z'),), (('b', 'c'),)), (('a', 'b', 'c', 'd'), (('a', 'b'),), (('a', 'c'), ('b', 'c'))), True, False)
>>> with_one(table, "a", "c")
raises Unfit()
>>> with_apart(table, "b", "a")
raises Unfit()
>>> may_be_one(table, "a", "x")
raises NoName(name='x')
>>> table = (("a", "b", "c", "d"), (("a", "b"),), (("b", "c"),))
>>> all_samenesses(table), finest(table), coarsest(table), how_many_samenesses(table)
([(('a', 'b'), ('c',), ('d',)), (('a', 'b'), ('c', 'd')), (('a', 'b', 'd'), ('c',))], (('a', 'b'), ('c',), ('d',)), [(('a', 'b'), ('c', 'd')), (('a', 'b', 'd'), ('c',))], 3)
>>> nth_sameness(table, 1), number_of_sameness(table, (("a", "b", "d"), ("c",))), [how_many_with(table, many) for many in range(5)], fewest_cells(table), a_fewest(table)
((('a', 'b'), ('c', 'd')), 2, [0, 0, 2, 1, 0], 2, (('a', 'b'), ('c', 'd')))
>>> is_sameness(table, (("a", "b"), ("c", "d"))), is_sameness(table, (("a", "b", "c"), ("d",))), is_sameness(table, (("a", "b"), ("c",))), is_sameness(table, (("c", "d"), ("a", "b")))
(True, False, False, False)
>>> cell_of(table, (("a", "b"), ("c", "d")), "c"), are_one(table, (("a", "b"), ("c", "d")), "a", "d"), joined_by(table, ("a", "d")), can_join(table, ("a", "c")), can_join(table, ("c", "d")), great_joins(table)
(('c', 'd'), False, (('a', 'b', 'd'), ('c',)), False, True, [('a', 'b', 'd'), ('c', 'd')])
>>> near, far = (("a", "b"), ("c", "d")), (("a", "b", "d"), ("c",))
>>> met(near, far), lies_within(met(near, far), near), lies_within(near, far), put_as_one(table, near, far), put_as_one(table, near, finest(table)), between(table, finest(table), far)
((('a', 'b'), ('c',), ('d',)), True, False, None, (('a', 'b'), ('c', 'd')), [(('a', 'b'), ('c',), ('d',)), (('a', 'b', 'd'), ('c',))])
>>> nth_sameness(table, 3)
raises NoNumber(number=3)
>>> joined_by(table, ("b", "c", "d"))
raises CanNot()
>>> cell_of(table, near, "x")
raises NoName(name='x')
>>> table = (("a", "b", "c", "d"), (("a", "b"),), (("b", "c"),))
>>> row = (("put", "a", 5), ("get", "d", "s"), ("put", "c", 7), ("get", "b", "t"), ("put", "d", 7))
>>> near, far, apart = (("a", "b"), ("c", "d")), (("a", "b", "d"), ("c",)), (("a", "b"), ("c",), ("d",))
>>> outcome(table, row, far), outcome(table, row, near), outcome(table, row, apart) == outcome(table, row, near)
(((('s', 5), ('t', 5)), (('a', 7), ('b', 7), ('c', 7), ('d', 7))), ((('t', 5),), (('a', 5), ('b', 5), ('c', 7), ('d', 7))), True)
>>> told_at(table, row, far, "s"), told_at(table, row, near, "s"), left_at(table, row, near, "a"), left_along(table, row[:2], far), read_from(table, row, far, "s"), read_from(table, row, near, "s"), left_from(table, row, near, "c"), lost_puts(table, row, near)
(5, None, 5, ((), (('a', 5), ('b', 5), ('d', 5)), (('a', 5), ('b', 5), ('d', 5))), 0, None, 4, (2,))
>>> how_many_outcomes(table, row), all_outcomes(table, row)[0] == outcome(table, row, far), samenesses_for(table, row, outcome(table, row, near)) == [apart, near], all_outcomes(table, ())
(2, True, True, [((), ())])
>>> is_row(table, row), is_row(table, row[:1] * 2), is_row(table, (("get", "a", "s"), ("get", "b", "s"))), is_row(table, (("put", "x", 1),)), is_row(table, (("put", "a", None),)), is_row(table, ())
(True, True, False, False, False, True)
>>> names_in(row), spots_of(row), puts_of(row), gets_of(row), without_places(row, (1, 3)), beginnings(row)[1], row_behind(row[:1], (("get", "c", "s"),))
(('a', 'b', 'c', 'd'), ('s', 't'), (0, 2, 4), (1, 3), (('put', 'a', 5), ('put', 'c', 7), ('put', 'd', 7)), (('put', 'a', 5),), (('put', 'a', 5), ('get', 'c', 's')))
>>> told_at(table, row, far, "u")
raises NoSpot(spot='u')
>>> row_behind(row, row[1:2])
raises Unfit()
'''


def steps(text):
    """Pairs (what is done, what stands below it or None)."""
    lines = text.strip().split("\n")
    for line, below in zip(lines, lines[1:] + [">>>"]):
        if line.startswith(">>> "):
            yield line[4:], None if below.startswith(">>>") else below


class Examples(Case):
    def test_examples(self):
        known = {**vars(errors), **vars(tables), **vars(samenesses), **vars(rows)}
        looked = 0
        for done, below in steps(EXAMPLES):
            with self.subTest(done):
                if below is None:
                    exec(done, known)
                elif below.startswith("raises "):
                    wanted = eval(below[7:], known)
                    self.refused(type(wanted), eval, done, known, **vars(wanted))
                else:
                    self.assertEqual(repr(eval(done, known)), below)
                looked += 1
        self.assertEqual(looked, EXAMPLES.count(">>>"))
