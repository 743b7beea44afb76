"""Point 7: what is seen by some SAMENESS and by all, against all SAMENESSES gone through, and the errors."""

import functools

from aliasrows import sure as package
from aliasrows.errors import NoName, NoNumber, NoSpot
from tests.helper import BOUND, Case, as_lists, foreign_cells, hung, number_of, samenesses, seen_at, seen_left
from tests.helper import some_rows, spots, values_in_order, word_of

TABLE = (("a", "b", "c", "d"), (("a", "b"),), (("b", "c"),))
ROW = (("put", "d", 1), ("put", "a", 2), ("get", "d", "s"), ("get", "c", "t"), ("put", "b", 3))
NO_NAMES = ("s", "x", "", "A", "aa", "abcdefghi")
NO_SPOTS = ("d", "u", "", "S", "ss", "abcdefghi")


@functools.lru_cache(maxsize=None)
def looked():
    """For each TABLE and ROW: two dicts, of what is seen at its spots and at its names."""
    return tuple((table, row, {spot: seen_at(table, row, spot) for spot in spots(row)},
                  {name: seen_left(table, row, name) for name in table[0]}) for table, row in some_rows())


def at_all(calls):
    """Each TABLE and ROW with each spot and the first call, with each name and the second one, and what is seen."""
    for table, row, told, left in looked():
        for call, seen in zip(calls, (told, left)):
            for key, places in seen.items():
                yield call, table, row, key, places


def numbers_of(row, places):
    return [number_of(row, place) for place in places]


def puts(row):
    return [place for place, deed in enumerate(row) if deed[0] == "put"]


class Seen(Case):
    def test_seen(self):
        for call, table, row, key, places in at_all((package.seen_at, package.seen_left)):
            self.same(call(table, row, key), tuple(sorted(set(places) - {None})), (table, row, key))

    def test_empty(self):
        for call, table, row, key, places in at_all((package.empty_at, package.empty_left)):
            self.same(call(table, row, key), None in places, (table, row, key))

    def test_values(self):
        for call, table, row, key, places in at_all((package.values_at, package.values_left)):
            self.same(call(table, row, key), values_in_order(numbers_of(row, places)), (table, row, key))

    def test_sure(self):
        for table, row, told, left in looked():
            kept = []
            for call, seen in ((package.sure_spots, told), (package.sure_names, left)):
                values = {key: set(numbers_of(row, seen[key])) for key in seen}
                one = tuple(sorted(key for key in values if len(values[key]) == 1))
                self.same(call(table, row), one, (table, row))
                kept.append(tuple((key, max(values[key])) for key in one if values[key] != {None}))
            self.same(package.sure_told(table, row), tuple(kept), (table, row))

    def test_seeing(self):
        for table, row, told, left in looked():
            for place in puts(row):
                for call, seen in ((package.spots_seeing, told), (package.names_seeing, left)):
                    wanted = tuple(sorted(key for key in seen if place in seen[key]))
                    self.same(call(table, row, place), wanted, (table, row, place))

    def test_never_seen(self):
        for table, row, told, left in looked():
            seen = {place for places in [*told.values(), *left.values()] for place in places}
            wanted = tuple(place for place in puts(row) if place not in seen)
            self.same(package.never_seen(table, row), wanted, (table, row))

    def test_tellings(self):
        for table, row, told, _ in looked():
            for spot, places in told.items():
                values = numbers_of(row, places)
                pairs = tuple((value, values.count(value)) for value in values_in_order(values))
                self.same(package.tellings(table, row, spot), pairs, (table, row, spot))
                for value in {None, 0, 7, BOUND, -10 ** 400, *numbers_of(row, puts(row))}:
                    self.same(package.how_many_tell(table, row, spot, value), values.count(value), (table, row, spot))

    def test_sameness_for(self):
        calls = (package.sameness_for, package.sameness_left)
        for call, table, row, key, places in at_all(calls):
            values = numbers_of(row, places)
            for value in {None, 0, 7, BOUND, -10 ** 400, *numbers_of(row, puts(row))}:
                fit = [cells for cells, there in zip(samenesses(table), values) if there == value]
                got = call(table, row, key, value)
                if fit == []:
                    self.same(got, None, (table, row, key, value))
                    continue
                self.assertIn(got, fit, (table, row, key, value))
                self.same(len(got), max(len(cells) for cells in fit), (table, row, key, value))
                self.assertIn(len(hung(table)) - len(got), (0, 1), (table, row, key, value))
                self.same(call(as_lists(table), as_lists(row), key, value), got)

    def test_is_sameness_for(self):
        for call, table, row, key, places in at_all((package.is_sameness_for, package.is_sameness_left)):
            ways = list(zip(samenesses(table), numbers_of(row, places)))
            for cells, there in ways[::max(1, len(ways) // 7)]:
                for value in {None, 0, 1, -10 ** 400, there}:
                    self.same(call(table, row, key, value, cells), there == value, (table, row, key, cells))
                self.same(call(table, row, key, there, as_lists(cells)), False)
                self.same(call(table, row, key, there, cells + (("x",),)), False)

    def test_is_sameness_for_what_is_none(self):
        for call, table, row, key, places in at_all((package.is_sameness_for, package.is_sameness_left)):
            found = samenesses(table)
            values = dict(zip(found, numbers_of(row, places)))
            for thing in foreign_cells()[::4]:
                for value in (None, 1):
                    wanted = thing in values and values[thing] == value
                    self.same(call(table, row, key, value, thing), wanted, (table, row, key, thing))


class Guarantees(Case):
    def check(self, table, row, name, ahead, places):
        """The puts seen through this name among so many first DEEDS."""
        def word(place, other):
            return word_of(table, row[place][1], other)

        for place in puts(row[:ahead]):
            free = not any(word(later, row[place][1]) == "one" or word(later, name) == "one"
                           for later in puts(row[:ahead]) if later > place)
            self.same(place in places, word(place, name) != "apart" and free, (table, row, name, place))
        self.same(None in places, not any(word(place, name) == "one" for place in puts(row[:ahead])), (row, name))

    def test_what_is_seen(self):
        for table, row in some_rows():
            for ahead, deed in enumerate(row):
                if deed[0] == "get":
                    places = list(package.seen_at(table, row, deed[2]))
                    self.check(table, row, deed[1], ahead, places + [None] * package.empty_at(table, row, deed[2]))
            for name in table[0]:
                places = list(package.seen_left(table, row, name))
                self.check(table, row, name, len(row), places + [None] * package.empty_left(table, row, name))


class Edges(Case):
    def test_the_empty_row(self):
        for row in ((), []):
            self.same(package.seen_left(TABLE, row, "a"), ())
            self.same(package.empty_left(TABLE, row, "a"), True)
            self.same(package.values_left(TABLE, row, "a"), (None,))
            self.same(package.sure_spots(TABLE, row), ())
            self.same(package.sure_names(TABLE, row), ("a", "b", "c", "d"))
            self.same(package.sure_told(TABLE, row), ((), ()))
            self.same(package.never_seen(TABLE, row), ())
            self.same(package.sameness_left(TABLE, row, "a", None), (("a", "b"), ("c",), ("d",)))
            self.same(package.sameness_left(TABLE, row, "a", 0), None)
            self.same(package.is_sameness_left(TABLE, row, "a", None, (("a", "b"), ("c", "d"))), True)
            self.same(package.is_sameness_left(TABLE, row, "a", 0, (("a", "b"), ("c", "d"))), False)

    def test_a_table_of_one_name(self):
        table, row = (("q",), (), ()), (("put", "q", 0), ("get", "q", "q"), ("put", "q", 0), ("get", "q", "p"))
        self.same(package.seen_at(table, row, "q"), (0,))
        self.same(package.seen_at(table, row, "p"), (2,))
        self.same(package.sure_told(table, row), ((("p", 0), ("q", 0)), (("q", 0),)))
        self.same(package.sure_spots(table, row), ("p", "q"))
        self.same(package.never_seen(table, row), ())
        self.same(package.spots_seeing(table, row, 0), ("q",))
        self.same(package.names_seeing(table, row, 0), ())
        self.same(package.tellings(table, row, "p"), ((0, 1),))
        self.same(package.how_many_tell(table, row, "p", None), 0)
        self.same(package.sameness_for(table, row, "p", 0), (("q",),))

    def test_six_names(self):
        table = (tuple("abcdef"), (), ())
        row = tuple(("put", name, number) for number, name in enumerate("abcdef")) + (("get", "c", "s"),)
        self.same(package.seen_at(table, row, "s"), (2, 3, 4, 5))
        self.same(package.tellings(table, row, "s"), ((2, 87), (3, 27), (4, 37), (5, 52)))
        self.same(package.sure_names(table, row), ("f",))
        self.same(package.spots_seeing(table, row, 1), ())
        self.same(package.names_seeing(table, row, 5), tuple("abcdef"))
        self.same(package.sameness_for(table, row, "s", 1), None)
        self.same(len(package.sameness_for(table, row, "s", 5)), 5)
        self.same(len(package.sameness_for(table, row, "s", 2)), 6)

    def test_a_get_ahead_of_all_puts(self):
        row = (("get", "a", "s"), ("put", "a", 0), ("put", "d", BOUND))
        self.same(package.seen_at(TABLE, row, "s"), ())
        self.same(package.empty_at(TABLE, row, "s"), True)
        self.same(package.values_at(TABLE, row, "s"), (None,))
        self.same(package.sure_spots(TABLE, row), ("s",))
        self.same(package.sure_told(TABLE, row), ((), (("d", BOUND),)))
        self.same(package.tellings(TABLE, row, "s"), ((None, 3),))
        self.same(package.how_many_tell(TABLE, row, "s", None), 3)
        self.same(package.how_many_tell(TABLE, row, "s", 0), 0)

    def test_one_number_of_several_puts(self):
        row = (("put", "a", 0), ("put", "d", 0), ("get", "b", "s"), ("put", "d", -1), ("get", "a", "t"))
        self.same(package.seen_at(TABLE, row, "s"), (0, 1))
        self.same(package.values_at(TABLE, row, "s"), (0,))
        self.same(package.sure_spots(TABLE, row), ("s",))
        self.same(package.values_at(TABLE, row, "t"), (-1, 0))
        self.same(package.tellings(TABLE, row, "t"), ((-1, 1), (0, 2)))
        self.same(package.values_left(TABLE, row, "c"), (None, -1))
        self.same(package.never_seen(TABLE, row), ())

    def test_spots_called_as_names_are(self):
        row = (("put", "c", 4), ("get", "d", "a"), ("get", "a", "c"))
        self.same(package.values_at(TABLE, row, "a"), (None, 4))
        self.same(package.values_left(TABLE, row, "a"), (None,))
        self.same(package.sure_spots(TABLE, row), ("c",))
        self.same(package.spots_seeing(TABLE, row, 0), ("a",))


class Errors(Case):
    def test_no_spot(self):
        for call, more in ((package.seen_at, ()), (package.empty_at, ()), (package.values_at, ()),
                           (package.tellings, ()), (package.how_many_tell, (1,)), (package.sameness_for, (None,)),
                           (package.is_sameness_for, (1, None)), (package.is_sameness_for, (1, (("a", "b"), ("c",)))),
                           (package.is_sameness_for, (2, (("a", "b", "d"), ("c",))))):
            for spot in NO_SPOTS:
                self.refused(NoSpot, call, TABLE, ROW, spot, *more, spot=spot)
                self.refused(NoSpot, call, as_lists(TABLE), as_lists(ROW), spot, *more, spot=spot)
            self.refused(NoSpot, call, TABLE, (), "s", *more, spot="s")

    def test_no_name(self):
        for call, more in ((package.seen_left, ()), (package.empty_left, ()), (package.values_left, ()),
                           (package.sameness_left, (None,)), (package.is_sameness_left, (3, [])),
                           (package.is_sameness_left, (3, (("a", "b", "d"), ("c",))))):
            for name in NO_NAMES:
                self.refused(NoName, call, TABLE, ROW, name, *more, name=name)
                self.refused(NoName, call, as_lists(TABLE), as_lists(ROW), name, *more, name=name)
            self.refused(NoName, call, TABLE, (), "s", *more, name="s")

    def test_no_put(self):
        for call in (package.spots_seeing, package.names_seeing):
            for place in (2, 3, 5, 6, -1, -5, BOUND, -BOUND, 10 ** 400):
                self.refused(NoNumber, call, TABLE, ROW, place, number=place)
                self.refused(NoNumber, call, as_lists(TABLE), as_lists(ROW), place, number=place)
            self.refused(NoNumber, call, TABLE, (), 0, number=0)
