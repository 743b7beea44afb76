"""Point 6: each function against DEEDS done one by one by all SAMENESSES, and the errors."""

import itertools

from aliasrows import rows as package
from aliasrows.errors import NoName, NoNumber, NoSpot, Unfit
from tests.helper import BOUND, Case, as_lists, left_behind, number_of, outcome_of, put_behind, put_told, samenesses
from tests.helper import some_rows, some_tables, spots

TABLE = (("a", "b", "c", "d"), (("a", "b"),), (("b", "c"),))
ROW = (("put", "a", 5), ("get", "d", "s"), ("put", "c", 7), ("get", "b", "t"), ("put", "d", 7))
NEAR, FAR = (("a", "b"), ("c", "d")), (("a", "b", "d"), ("c",))


def some_ways():
    """TABLES, ROWS and some of the SAMENESSES."""
    for table, row in some_rows():
        found = samenesses(table)
        for sameness in found[::max(1, len(found) // 9)]:
            yield table, row, sameness


class Parts(Case):
    def test_names_and_spots(self):
        for _, row in some_rows():
            self.same(package.names_in(row), tuple(sorted({name for _, name, _ in row})), row)
            self.same(package.spots_of(row), tuple(spots(row)), row)

    def test_puts_and_gets(self):
        for _, row in some_rows():
            for call, word in ((package.puts_of, "put"), (package.gets_of, "get")):
                self.same(call(row), tuple(place for place in range(len(row)) if row[place][0] == word), row)

    def test_the_empty_row(self):
        for call in (package.names_in, package.spots_of, package.puts_of, package.gets_of):
            self.same(call(()), ())
            self.same(call([]), ())
        self.same(package.beginnings(()), [()])
        self.same(package.without_places((), ()), ())
        self.same(package.row_behind((), ()), ())
        self.same(package.outcome(TABLE, (), NEAR), ((), ()))
        self.same(package.left_along(TABLE, (), NEAR), ((),))
        self.same(package.left_at(TABLE, (), NEAR, "a"), None)
        self.same(package.left_from(TABLE, (), NEAR, "a"), None)
        self.same(package.lost_puts(TABLE, (), NEAR), ())
        self.same(package.all_outcomes(TABLE, ()), [((), ())])
        self.same(package.how_many_outcomes(TABLE, ()), 1)
        self.same(package.samenesses_for(TABLE, (), ((), ())), samenesses(TABLE))

    def test_beginnings(self):
        for _, row in some_rows():
            self.same(package.beginnings(row), [row[:many] for many in range(len(row) + 1)])

    def test_row_behind(self):
        for (table, row), (_, second) in zip(some_rows(), some_rows()[1:]):
            if set(spots(row)) & set(spots(second)):
                self.refused(Unfit, package.row_behind, row, second)
            else:
                self.same(package.row_behind(row, second), row + second)
        self.same(package.row_behind((), ROW), ROW)
        self.same(package.row_behind(ROW, ()), ROW)
        self.same(package.row_behind(ROW[:1] * 8, ROW[:1] * 8), ROW[:1] * 16)
        self.same(package.row_behind((("get", "a", "s"),), (("put", "s", 1), ("get", "a", "t"))),
                  (("get", "a", "s"), ("put", "s", 1), ("get", "a", "t")))
        self.refused(Unfit, package.row_behind, (("get", "a", "s"),), (("get", "b", "s"),))
        self.refused(Unfit, package.row_behind, [["get", "a", "s"]], [["put", "a", 1], ["get", "b", "s"]])

    def test_without_places(self):
        for _, row in some_rows():
            places = range(len(row))
            for many in range(len(row) + 1):
                for gone in list(itertools.combinations(places, many))[:9]:
                    left = tuple(row[place] for place in places if place not in gone)
                    self.same(package.without_places(row, gone), left, (row, gone))


class ByOneSameness(Case):
    def test_outcome(self):
        for table, row, sameness in some_ways():
            self.same(package.outcome(table, row, sameness), outcome_of(row, sameness), (row, sameness))

    def test_told_at_and_read_from(self):
        for table, row, sameness in some_ways():
            for spot in spots(row):
                place = put_told(row, sameness, spot)
                self.same(package.read_from(table, row, sameness, spot), place, (row, sameness, spot))
                self.same(package.told_at(table, row, sameness, spot), number_of(row, place), (row, sameness, spot))

    def test_left_at_and_left_from(self):
        for table, row, sameness in some_ways():
            for name in table[0]:
                place = put_behind(row, sameness, name)
                self.same(package.left_from(table, row, sameness, name), place, (row, sameness, name))
                self.same(package.left_at(table, row, sameness, name), number_of(row, place), (row, sameness, name))

    def test_left_along(self):
        for table, row, sameness in some_ways():
            along = tuple(left_behind(row[:many], sameness) for many in range(len(row) + 1))
            self.same(package.left_along(table, row, sameness), along, (row, sameness))

    def test_lost_puts(self):
        for table, row, sameness in some_ways():
            seen = [put_told(row, sameness, spot) for spot in spots(row)]
            seen += [put_behind(row, sameness, name) for name in table[0]]
            lost = [place for place in range(len(row)) if row[place][0] == "put" and place not in seen]
            self.same(package.lost_puts(table, row, sameness), tuple(lost), (row, sameness))

    def test_a_row_of_eight(self):
        table, cells = (("p", "q"), (), ()), (("p", "q"),)
        row = (("get", "p", "a"), ("put", "p", 0), ("get", "q", "b"), ("put", "q", 0), ("put", "p", -BOUND),
               ("get", "q", "p"), ("put", "q", BOUND), ("put", "q", BOUND))
        self.same(package.outcome(table, row, cells), ((("b", 0), ("p", -BOUND)), (("p", BOUND), ("q", BOUND))))
        self.same(package.lost_puts(table, row, cells), (3, 6))
        self.same(package.lost_puts(table, row, (("p",), ("q",))), (1, 6))
        self.same(package.read_from(table, row, cells, "a"), None)
        self.same(package.told_at(table, row, cells, "a"), None)
        self.same(package.told_at(table, row, cells, "b"), 0)
        self.same(package.read_from(table, row, cells, "p"), 4)
        self.same(package.told_at(table, row, (("p",), ("q",)), "p"), 0)
        self.same(package.left_from(table, row, (("p",), ("q",)), "p"), 4)

    def test_spots_called_as_names_are(self):
        row = (("put", "a", 1), ("get", "c", "a"), ("get", "a", "c"))
        self.same(package.outcome(TABLE, row, NEAR), ((("c", 1),), (("a", 1), ("b", 1))))
        self.same(package.told_at(TABLE, row, NEAR, "a"), None)


class ByAllSamenesses(Case):
    def test_all_outcomes(self):
        for table, row in some_rows():
            unlike = sorted({outcome_of(row, sameness) for sameness in samenesses(table)})
            self.same(package.all_outcomes(table, row), unlike, (table, row))
            self.same(package.how_many_outcomes(table, row), len(unlike), (table, row))

    def test_samenesses_for(self):
        for table, row in some_rows():
            found = samenesses(table)
            for pair in sorted({outcome_of(row, sameness) for sameness in found})[:5]:
                wanted = [sameness for sameness in found if outcome_of(row, sameness) == pair]
                self.same(package.samenesses_for(table, row, pair), wanted, (table, row, pair))
                self.same(package.samenesses_for(table, row, as_lists(pair)), wanted, (table, row, pair))

    def test_samenesses_for_none(self):
        told, left = outcome_of(ROW, NEAR)
        for pair in (((), ()), (told, ()), ((), left), (told, left[1:]), (told + (("zz", 1),), left), (left, told),
                     (told, left + (("x", 7),)), (told[:-1] + (("t", -5),), left), ((("x", BOUND),), left)):
            self.same(package.samenesses_for(TABLE, ROW, pair), [])

    def test_guarantee(self):
        for table in some_tables():
            names = table[0]
            for order in (names, names[::-1], names[1:] + names[:1]):
                row = tuple(("put", name, number) for number, name in enumerate(order))
                self.same(package.how_many_outcomes(table, row), len(samenesses(table)), row)


class Errors(Case):
    def test_no_spot(self):
        for call in (package.told_at, package.read_from):
            for spot in ("u", "a", "d", "", "S", "s ", "ss", "abcdefghi"):
                self.refused(NoSpot, call, TABLE, ROW, FAR, spot, spot=spot)
                self.refused(NoSpot, call, as_lists(TABLE), as_lists(ROW), as_lists(FAR), spot, spot=spot)
                self.refused(NoSpot, call, TABLE, (), FAR, spot, spot=spot)

    def test_no_name(self):
        for call in (package.left_at, package.left_from):
            for name in ("s", "x", "", "A", "aa", "abcdefghi"):
                self.refused(NoName, call, TABLE, ROW, FAR, name, name=name)
                self.refused(NoName, call, as_lists(TABLE), as_lists(ROW), as_lists(FAR), name, name=name)
                self.refused(NoName, call, TABLE, (), FAR, name, name=name)

    def test_no_number(self):
        for places, number in (((5,), 5), ((-1,), -1), ((0, 4, 5, 9), 5), ((-5, 9), -5), ((-2, -1, 0), -2),
                               ((-BOUND, 0), -BOUND), ((0, 1, 2, 3, 4, BOUND), BOUND)):
            self.refused(NoNumber, package.without_places, ROW, places, number=number)
            self.refused(NoNumber, package.without_places, as_lists(ROW), list(places), number=number)
        self.refused(NoNumber, package.without_places, (), (0,), number=0)

    def test_unfit(self):
        self.refused(Unfit, package.row_behind, ROW, ROW)
        self.refused(Unfit, package.row_behind, ROW[3:], ROW[2:4])
