"""Point 5: each function against all SAMENESSES found by going through all ways, and the errors."""

import itertools

from aliasrows import samenesses as package
from aliasrows.errors import CanNot, NoName, NoNumber
from tests.helper import BOUND, Case, as_lists, home_of, hung, samenesses, some_tables, within

TABLE = (("a", "b", "c", "d"), (("a", "b"),), (("b", "c"),))
NEAR = (("a", "b"), ("c", "d"))
FREE = (tuple("abcdef"), (), ())
NONE = ("x", "", "aa", "A", "a ", "abcdefghi")
NO_NUMBERS = (-1, -2, -BOUND, BOUND, 10 ** 400, -10 ** 5000, 10 ** 5000)


def small_tables():
    """Those with few SAMENESSES, for pairs of them."""
    return [table for table in some_tables() if len(samenesses(table)) <= 15]


def some_pairs(table):
    """Pairs of SAMENESSES: all, or of many just some."""
    found = samenesses(table)
    return itertools.product(found[::max(1, len(found) // 7)], found[::max(1, len(found) // 11)])


def subsets(names):
    return [some for many in range(len(names) + 1) for some in itertools.combinations(names, many)]


class Lists(Case):
    def test_all(self):
        for table in some_tables():
            self.same(package.all_samenesses(table), samenesses(table), table)
            self.same(package.how_many_samenesses(table), len(samenesses(table)), table)
        for many, wanted in enumerate((1, 2, 5, 15, 52, 203), 1):
            self.same(package.how_many_samenesses((FREE[0][:many], (), ())), wanted)

    def test_numbers(self):
        for table in some_tables():
            found = samenesses(table)
            for number in sorted({0, 1, 2, len(found) // 2, len(found) - 1}):
                if number < len(found):
                    self.same(package.nth_sameness(table, number), found[number])
                    self.same(package.number_of_sameness(table, found[number]), number)
            for number in (len(found), len(found) + 1, -len(found)) + NO_NUMBERS:
                self.assertRaises(NoNumber, package.nth_sameness, table, number)

    def test_each_number(self):
        table = (FREE[0][:4], (), (("a", "d"),))
        for number, sameness in enumerate(samenesses(table)):
            self.same(package.nth_sameness(table, number), sameness)
            self.same(package.number_of_sameness(table, sameness), number)
            self.same(package.number_of_sameness(table, as_lists(sameness)), number)

    def test_no_number(self):
        for number in (3, 4, -3, -BOUND, BOUND) + NO_NUMBERS[:3]:
            self.refused(NoNumber, package.nth_sameness, TABLE, number, number=number)
            self.refused(NoNumber, package.nth_sameness, as_lists(TABLE), number, number=number)

    def test_how_many_with(self):
        for table in some_tables():
            found = [len(cells) for cells in samenesses(table)]
            for many in range(-2, 9):
                self.same(package.how_many_with(table, many), found.count(many), (table, many))
            for many in NO_NUMBERS:
                self.same(package.how_many_with(table, many), 0)

    def test_fewest(self):
        for table in some_tables():
            least = min(samenesses(table), key=lambda cells: (len(cells), cells))
            self.same(package.fewest_cells(table), len(least), table)
            self.same(package.a_fewest(table), least, table)

    def test_finest_and_coarsest(self):
        for table in some_tables():
            found = samenesses(table)
            finest = [cells for cells in found if all(within(cells, other) for other in found)]
            self.same([package.finest(table)], finest, table)
            self.same(package.finest(table), hung(table), table)
            coarsest = [cells for cells in found if not any(cells != other and within(cells, other) for other in found)]
            self.same(package.coarsest(table), coarsest, table)

    def test_great_joins(self):
        for table in some_tables():
            cells = {cell for sameness in samenesses(table) for cell in sameness}
            great = sorted(cell for cell in cells if not any(set(cell) < set(other) for other in cells))
            self.same(package.great_joins(table), great, table)
        star = (("h", "x", "y", "z"), (), (("x", "y"), ("x", "z"), ("y", "z")))
        self.same(package.great_joins(star), [("h", "x"), ("h", "y"), ("h", "z")])

    def test_little_joined(self):
        for table in some_tables():
            counts = {cells: sorted(sum(set(lump) <= set(cell) for lump in hung(table)) for cell in cells)
                      for cells in samenesses(table)}
            little = [cells for cells, many in counts.items() if max(many) <= 3 and sum(many) - len(many) < max(many)]
            found = package.little_joined(table)
            self.same(sorted(found), little, table)
            self.same([len(cells) for cells in found], sorted(map(len, found), reverse=True), table)

    def test_a_table_of_one_name(self):
        table, only = (("q",), (), ()), (("q",),)
        self.same(package.all_samenesses(table), [only])
        self.same(package.coarsest(table), [only])
        self.same(package.finest(table), only)
        self.same(package.great_joins(table), [("q",)])
        self.same(package.joined_by(table, ("q",)), only)
        self.same(package.fewest_cells(table), 1)


class Cells(Case):
    def test_cell_of_and_are_one(self):
        for table in some_tables():
            found = samenesses(table)
            for cells in found[::max(1, len(found) // 9)]:
                home = home_of(cells)
                for one, other in itertools.product(table[0], repeat=2):
                    self.same(package.are_one(table, cells, one, other), home[one] == home[other], (cells, one, other))
                for name in table[0]:
                    self.same(package.cell_of(table, cells, name), home[name], (cells, name))
                    self.same(package.cell_of(table, as_lists(cells), name), home[name], (cells, name))

    def test_joined_by(self):
        for table in some_tables():
            for some in subsets(table[0]):
                fit = [cells for cells in samenesses(table) if any(set(some) <= set(cell) for cell in cells)]
                least = [cells for cells in fit if all(within(cells, other) for other in fit)]
                if some == ():
                    least = [hung(table)]
                self.same(package.can_join(table, some), least != [], (table, some))
                if least == []:
                    self.refused(CanNot, package.joined_by, table, some)
                else:
                    self.same(package.joined_by(table, some), least[0], (table, some))

    def test_joined_by_lumps(self):
        table = (("a", "b", "c", "d", "e"), (("a", "d"), ("b", "e")), (("c", "e"),))
        self.same(package.joined_by(table, ("a", "b")), (("a", "b", "d", "e"), ("c",)))
        self.same(package.joined_by(table, ("d",)), (("a", "d"), ("b", "e"), ("c",)))
        self.same(package.joined_by(table, ()), (("a", "d"), ("b", "e"), ("c",)))
        self.same(package.can_join(table, ()), True)
        self.refused(CanNot, package.joined_by, table, ("b", "c"))
        self.refused(CanNot, package.joined_by, table, ["a", "b", "c", "d", "e"])


class TwoOfThem(Case):
    def test_lies_within(self):
        for table in some_tables():
            for first, second in some_pairs(table):
                self.same(package.lies_within(first, second), within(first, second), (first, second))
                self.same(package.lies_within(second, first), within(second, first), (first, second))
                self.same(package.lies_within(first, first), True)

    def test_met(self):
        for table in some_tables():
            for first, second in some_pairs(table):
                shared = {tuple(sorted(set(cell) & set(other))) for cell in first for other in second} - {()}
                self.same(package.met(first, second), tuple(sorted(shared)), (first, second))
                self.assertIn(package.met(first, second), samenesses(table))
        self.same(package.met((("a", "b", "c", "d"),), (("a", "d"), ("b", "c"))), (("a", "d"), ("b", "c")))
        self.same(package.met((("a", "c"), ("b", "d")), (("a", "d"), ("b", "c"))), (("a",), ("b",), ("c",), ("d",)))

    def check_put_as_one(self, table, first, second):
        above = [cells for cells in samenesses(table) if within(first, cells) and within(second, cells)]
        least = [cells for cells in above if all(within(cells, other) for other in above)]
        self.same(package.put_as_one(table, first, second), least[0] if least else None, (table, first, second))

    def test_put_as_one(self):
        for table in some_tables():
            for first, second in some_pairs(table):
                self.check_put_as_one(table, first, second)
        for table in small_tables():
            for first, second in itertools.product(samenesses(table), repeat=2):
                self.check_put_as_one(table, first, second)

    def test_put_as_one_along_a_row(self):
        first, second = (("a", "b"), ("c", "d"), ("e", "f")), (("a",), ("b", "c"), ("d", "e"), ("f",))
        self.same(package.put_as_one(FREE, first, second), (FREE[0],))
        self.same(package.put_as_one(FREE, second, first), (FREE[0],))
        self.same(package.put_as_one((FREE[0], (), (("a", "f"),)), first, second), None)

    def test_between(self):
        for table in some_tables():
            found = samenesses(table)
            for first, second in some_pairs(table):
                wanted = [cells for cells in found if within(first, cells) and within(cells, second)]
                self.same(package.between(table, first, second), wanted, (table, first, second))
            self.same(package.between(table, found[0], found[0]), [found[0]])
            for great in package.coarsest(table)[:3]:
                wanted = [cells for cells in found if within(cells, great)]
                self.same(package.between(table, hung(table), great), wanted, (table, great))
        self.same(package.between(TABLE, NEAR, package.finest(TABLE)), [])

    def test_guarantees(self):
        for table in some_tables():
            self.assertIn(package.finest(table), samenesses(table))
            for cells in samenesses(table):
                self.same(package.lies_within(package.finest(table), cells), True)
                self.same(package.is_sameness(table, cells), True)


class Errors(Case):
    def test_no_name_in_cells(self):
        for name in NONE:
            self.refused(NoName, package.cell_of, TABLE, NEAR, name, name=name)
            self.refused(NoName, package.are_one, TABLE, NEAR, name, "a", name=name)
            self.refused(NoName, package.are_one, TABLE, NEAR, "a", name, name=name)
            self.refused(NoName, package.are_one, TABLE, NEAR, name, "y", name=name)
            self.refused(NoName, package.are_one, TABLE, NEAR, "y", name, name="y")
            self.refused(NoName, package.are_one, as_lists(TABLE), as_lists(NEAR), name, name, name=name)

    def test_no_name_of_some(self):
        for call in (package.joined_by, package.can_join):
            for some, name in ((("x",), "x"), (("b", "c", "x"), "x"), (("", "x"), ""), (("a", "aa", "c", "z"), "aa"),
                               (("A", "a"), "A"), (("b", "c", "d", "e", "f"), "e"), (("abcdefghi",), "abcdefghi")):
                self.refused(NoName, call, TABLE, some, name=name)
                self.refused(NoName, call, as_lists(TABLE), as_lists(some), name=name)

    def test_can_not(self):
        for some in (("a", "c"), ("b", "c"), ("a", "b", "c"), ("a", "c", "d"), ("a", "b", "c", "d")):
            self.refused(CanNot, package.joined_by, TABLE, some)
            self.refused(CanNot, package.joined_by, as_lists(TABLE), as_lists(some))
            self.same(package.can_join(TABLE, some), False)
