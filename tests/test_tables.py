"""Point 4: each function against all SAMENESSES, and the errors."""

import itertools

from aliasrows import tables
from aliasrows.errors import Known, NoName, Unfit
from tests.helper import Case, as_lists, hung, pairs_of, samenesses, some_tables, together, word_of

TABLE = (("a", "b", "c", "d"), (("a", "b"),), (("b", "c"),))
NONE = ("x", "", "aa", "A", "a ", "put", "abcdefghi")


def pairs(table):
    """All pairs of names, each with itself and either way, too."""
    return itertools.product(table[0], repeat=2)


def with_pair(told, one, other):
    return tuple(sorted(set(told) | {tuple(sorted((one, other)))}))


def without(told, one, other):
    return tuple(pair for pair in told if set(pair) != {one, other})


class Looks(Case):
    def test_names_and_lumps(self):
        for table in some_tables():
            self.same(tables.names_of(table), table[0])
            self.same(tables.lumps(table), hung(table), table)
            for name in table[0]:
                self.same(tables.lump_of(table, name), [lump for lump in hung(table) if name in lump][0])

    def test_lumps_of_chains(self):
        names = tuple("abcdef")
        for order in itertools.permutations(names):
            chain = tuple(sorted(tuple(sorted(pair)) for pair in zip(order, order[1:])))
            self.same(tables.lumps((names, chain, ())), (names,))
            told = tuple(sorted(tuple(sorted(pair)) for pair in zip(order[::2], order[1::2])))
            self.same(tables.lumps((names, told, ())), told)

    def test_what_is_sure(self):
        for table in some_tables():
            for one, other in pairs(table):
                joined, every = together(table, one, other)
                self.same(tables.surely_one(table, one, other), joined == every, (table, one, other))
                self.same(tables.surely_apart(table, one, other), joined == 0, (table, one, other))
                self.same(tables.may_be_one(table, one, other), joined > 0, (table, one, other))
                self.same(tables.told_of(table, one, other), word_of(table, one, other), (table, one, other))

    def test_guarantees(self):
        for table in some_tables():
            for one, other in pairs(table):
                first, second = tables.lump_of(table, one), tables.lump_of(table, other)
                self.same(tables.surely_one(table, one, other), first == second)
                apart = any(x in first and y in second or y in first and x in second for x, y in table[2])
                self.same(tables.surely_apart(table, one, other), apart)

    def test_one_name_twice(self):
        for name in TABLE[0]:
            self.same(tables.surely_one(TABLE, name, name), True)
            self.same(tables.surely_apart(TABLE, name, name), False)
            self.same(tables.may_be_one(TABLE, name, name), True)
            self.same(tables.told_of(TABLE, name, name), "one")

    def test_maybe_with_and_open_pairs(self):
        for table in some_tables():
            for name in table[0]:
                wanted = [other for other in table[0] if other != name and together(table, name, other)[0]]
                self.same(tables.maybe_with(table, name), tuple(wanted), (table, name))
            self.same(tables.open_pairs(table), pairs_of(table, "open"), table)

    def test_filled(self):
        for table in some_tables():
            filled = (table[0], pairs_of(table, "one"), pairs_of(table, "apart"))
            self.same(tables.filled(table), filled, table)
            self.same(tables.filled(filled), filled, table)
            self.same(samenesses(filled), samenesses(table))

    def test_same_tables(self):
        groups = {}
        for table in some_tables():
            groups.setdefault(table[0], []).append(table)
        for group in groups.values():
            for first, second in itertools.product(group, repeat=2):
                wanted = samenesses(first) == samenesses(second)
                self.same(tables.same_tables(first, second), wanted, (first, second))
        self.same(tables.same_tables((("a", "b"), (), ()), (("a", "c"), (), ())), False)
        self.same(tables.same_tables((("a",), (), ()), (("a", "b"), (), ())), False)
        trio = ("a", "b", "c")
        self.same(tables.same_tables((trio, (("a", "b"), ("b", "c")), ()), (trio, (("a", "c"), ("b", "c")), ())), True)
        self.same(tables.same_tables((trio, (("a", "b"),), (("a", "c"),)), (trio, (("a", "b"),), (("b", "c"),))), True)
        self.same(tables.same_tables([list(trio), [["a", "b"]], []], (trio, (("a", "b"),), ())), True)

    def test_a_table_of_one_name(self):
        table = (("q",), (), ())
        self.same(tables.lumps(table), (("q",),))
        self.same(tables.maybe_with(table, "q"), ())
        self.same(tables.open_pairs(table), ())
        self.same(tables.filled(table), table)


class Changes(Case):
    def test_with_name(self):
        for table in some_tables():
            for name in ("a", "aa", "b", "m", "zz", "zzzzzzzz", "abcdefgh"):
                if name in table[0]:
                    self.refused(Known, tables.with_name, table, name, name=name)
                else:
                    self.same(tables.with_name(table, name), (tuple(sorted(table[0] + (name,))),) + table[1:])

    def test_without_name(self):
        for table in some_tables():
            for name in table[0]:
                if len(table[0]) > 1:
                    left = [tuple(pair for pair in told if name not in pair) for told in table[1:]]
                    wanted = (tuple(other for other in table[0] if other != name), *left)
                    self.same(tables.without_name(table, name), wanted, (table, name))
        trio = (("aa", "ab", "b"), (("aa", "ab"), ("ab", "b")), ())
        self.same(tables.without_name(trio, "ab"), (("aa", "b"), (), ()))
        self.same(tables.without_name(trio, "b"), (("aa", "ab"), (("aa", "ab"),), ()))

    def test_with_one(self):
        for table in some_tables():
            for one, other in pairs(table):
                if one == other or together(table, one, other)[0] == 0:
                    self.refused(Unfit, tables.with_one, table, one, other)
                else:
                    wanted = (table[0], with_pair(table[1], one, other), table[2])
                    self.same(tables.with_one(table, one, other), wanted, (table, one, other))
                    self.same(tables.is_table(tables.with_one(table, one, other)), True)

    def test_with_apart(self):
        for table in some_tables():
            for one, other in pairs(table):
                if word_of(table, one, other) == "one":
                    self.refused(Unfit, tables.with_apart, table, one, other)
                else:
                    wanted = (table[0], table[1], with_pair(table[2], one, other))
                    self.same(tables.with_apart(table, one, other), wanted, (table, one, other))
                    self.same(tables.is_table(tables.with_apart(table, one, other)), True)

    def test_told_already(self):
        self.same(tables.with_one(TABLE, "b", "a"), TABLE)
        self.same(tables.with_apart(TABLE, "c", "b"), TABLE)
        self.same(tables.with_apart(TABLE, "c", "a")[2], (("a", "c"), ("b", "c")))
        trio = (("a", "b", "c"), (("a", "b"), ("b", "c")), ())
        self.same(tables.with_one(trio, "c", "a")[1], (("a", "b"), ("a", "c"), ("b", "c")))
        self.same(tables.without_pair(trio, "a", "c"), trio)

    def test_without_pair(self):
        for table in some_tables():
            for one, other in pairs(table):
                wanted = (table[0], without(table[1], one, other), without(table[2], one, other))
                self.same(tables.without_pair(table, one, other), wanted, (table, one, other))
        for name in TABLE[0]:
            self.same(tables.without_pair(TABLE, name, name), TABLE)
        self.same(tables.without_pair(TABLE, "b", "a"), (TABLE[0], (), TABLE[2]))
        self.same(tables.without_pair(TABLE, "c", "b"), (TABLE[0], TABLE[1], ()))

    def check_renamed(self, table, turned):
        """turned: a dict."""
        names = [turned.get(name, name) for name in table[0]]
        turns = tuple(turned.items())
        if len(set(names)) < len(names):
            self.refused(Unfit, tables.renamed, table, turns)
            return
        told = [tuple(sorted(tuple(sorted(turned.get(name, name) for name in pair)) for pair in part))
                for part in table[1:]]
        self.same(tables.renamed(table, turns), (tuple(sorted(names)), *told), (table, turned))

    def test_renamed(self):
        for table in some_tables():
            names = table[0]
            self.same(tables.renamed(table, ()), table)
            for some in (names, names[:1], names[1:], ("x", "y") + names[:2], names[::-2] + ("x",)):
                for fresh in (some[1:] + some[:1], ("x", "y", "z", "u", "v", "w"), some[::-1], ("a",) * 9, some,
                              ("abcdefgh", "a", "b", "zz", "k", "aa")):
                    self.check_renamed(table, dict(zip(some, fresh)))

    def test_renamed_all_at_once(self):
        self.same(tables.renamed(TABLE, (("a", "b"), ("b", "a"))), (TABLE[0], (("a", "b"),), (("a", "c"),)))
        self.same(tables.renamed(TABLE, (("a", "d"), ("d", "a"))), (TABLE[0], (("b", "d"),), (("b", "c"),)))
        self.same(tables.renamed(TABLE, (("a", "e"), ("e", "a"), ("q", "a"))),
                  (("b", "c", "d", "e"), (("b", "e"),), (("b", "c"),)))
        self.refused(Unfit, tables.renamed, TABLE, (("a", "c"),))
        self.refused(Unfit, tables.renamed, TABLE, (("a", "x"), ("c", "x")))
        self.refused(Unfit, tables.renamed, as_lists(TABLE), [["x", "c"], ["b", "d"]])


class Errors(Case):
    def test_no_name(self):
        for call in (tables.lump_of, tables.maybe_with, tables.without_name):
            for name in NONE:
                self.refused(NoName, call, TABLE, name, name=name)
                self.refused(NoName, call, as_lists(TABLE), name, name=name)

    def test_no_name_of_two(self):
        for call in (tables.surely_one, tables.surely_apart, tables.may_be_one, tables.told_of, tables.with_one,
                     tables.with_apart, tables.without_pair):
            for name in NONE:
                self.refused(NoName, call, TABLE, name, "a", name=name)
                self.refused(NoName, call, TABLE, "a", name, name=name)
                self.refused(NoName, call, TABLE, name, "y", name=name)
                self.refused(NoName, call, TABLE, "y", name, name="y")
                self.refused(NoName, call, TABLE, name, name, name=name)

    def test_unfit(self):
        for call in (tables.with_one, tables.with_apart):
            for name in TABLE[0]:
                self.refused(Unfit, call, TABLE, name, name)
        for one, other in (("a", "c"), ("c", "a"), ("b", "c"), ("c", "b")):
            self.refused(Unfit, tables.with_one, TABLE, one, other)
        for one, other in (("a", "b"), ("b", "a")):
            self.refused(Unfit, tables.with_apart, TABLE, one, other)
        chain = (("a", "b", "c"), (("a", "b"), ("b", "c")), ())
        self.refused(Unfit, tables.with_apart, chain, "c", "a")

    def test_known(self):
        for name in TABLE[0]:
            self.refused(Known, tables.with_name, as_lists(TABLE), name, name=name)
