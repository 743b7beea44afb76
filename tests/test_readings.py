"""Point 15: READINGS, against all SAMENESSES gone through, and the errors."""

import functools
import itertools
import random

from aliasrows import probes
from aliasrows import readings as package
from aliasrows.errors import NoName, Unfit
from tests.helper import BOUND, Case, as_lists, drawn_row, home_of, in_turns, samenesses, some_tables, told_by, word_of
from tests.test_probes import asking_rows

THREE = (("a", "b", "c"), (), ())
ROW = (("put", "a", 1), ("put", "b", 2), ("put", "c", 3), ("get", "a", "s"))
LONE, LAST = (ROW, (("s", 1),)), (ROW, (("s", 3),))
TWO = (("put", "a", 1), ("put", "b", 7), ("put", "c", 7), ("get", "a", "s"))
SIX = (tuple("abcdef"), (), ())
NONE = ("x", "", "aa", "A", "a ", "s", "abcdefghi")


def reading(row, cells):
    return row, told_by(row, cells)


@functools.lru_cache(maxsize=None)
def fitting(table, readings):
    return [cells for cells in samenesses(table) if all(told_by(row, cells) == told for row, told in readings)]


@functools.lru_cache(maxsize=None)
def some_readings():
    """Pairs of a TABLE and READINGS of it: of one hidden SAMENESS, or of several ones that gainsay one another."""
    draw = random.Random(151)
    found = []
    for table in some_tables():
        ways = samenesses(table)
        for many in (0, 1, 1, 2, 3, 6):
            hidden, readings = draw.choice(ways), []
            for _ in range(many):
                row = drawn_row(draw, table, draw.choice((2, 4, 8)))
                if draw.random() < 0.7:
                    row = tuple(("put", name, draw.choice((number, 0))) for number, name in enumerate(table[0]))
                    row += tuple(("get", name, name)
                                 for name in draw.sample(table[0], draw.choice((1, 1, 2)) % (len(row) + 1)))
                readings.append(reading(row, hidden if draw.random() < 0.7 else draw.choice(ways)))
                if draw.random() < 0.05:
                    readings[-1] = (row, readings[-1][1][1:])
            if many == 6:
                readings[4] = readings[1]
            found.append((table, tuple(readings)))
    return tuple(found)


def fit_readings():
    return [found for found in some_readings() if fitting(*found)]


def lies():
    return [found for found in some_readings() if not fitting(*found)]


def parts(row, ways):
    told = [told_by(row, cells) for cells in ways]
    return tuple((one, told.count(one)) for one in sorted(set(told)))


def plain_get(table, name):
    return tuple(("put", other, number) for number, other in enumerate(table[0])) + (("get", name, name),)


def worst(table, readings, name):
    return max(many for _, many in parts(plain_get(table, name), fitting(table, readings)))


class Fit(Case):
    def test_enough_of_both(self):
        self.assertGreater(len(lies()), 15)
        self.assertGreater(len(fit_readings()), 100)

    def test_all_that_fit(self):
        for table, readings in some_readings():
            ways = fitting(table, readings)
            self.same(package.all_that_fit(table, readings), ways, (table, readings))
            self.same(package.how_many_fit(table, readings), len(ways), (table, readings))
            self.same(package.all_that_fit(as_lists(table), as_lists(readings)), ways)
            self.same(package.how_many_fit(table, in_turns(readings, False)), len(ways))
            for cells in samenesses(table)[::max(1, len(samenesses(table)) // 9)] + ways[:3]:
                self.same(package.fits(table, readings, cells), cells in ways, (table, readings, cells))
                self.same(package.fits(as_lists(table), as_lists(readings), as_lists(cells)), cells in ways)

    def test_first_lie(self):
        held = set()
        for table, readings in some_readings():
            wanted = next((place for place in range(len(readings)) if not fitting(table, readings[:place + 1])), None)
            held.add(wanted)
            self.same(package.first_lie(table, readings), wanted, (table, readings))
            self.same(package.first_lie(as_lists(table), as_lists(readings)), wanted)
        self.assertTrue({None, 1, 2} <= held, held)
        self.same(package.first_lie(THREE, ((ROW, ()), LONE)), 0)
        self.same(package.first_lie(THREE, (LONE, LONE, (ROW, (("s", 9),)), LAST)), 2)

    def test_reading_of(self):
        for table, row in asking_rows()[::3]:
            for cells in samenesses(table)[::max(1, len(samenesses(table)) // 9)]:
                wanted = reading(row, cells)
                self.same(package.reading_of(table, row, cells), wanted, (table, row, cells))
                self.same(package.reading_of(as_lists(table), as_lists(row), as_lists(cells)), wanted)
                self.same(package.is_readings(table, (wanted,)), True)
                self.same(package.fits(table, (wanted,), cells), True)

    def test_told_that_no_row_tells(self):
        for told in ((), (("s", 0),), (("s", BOUND),), (("s", 4),)):
            self.same(package.all_that_fit(THREE, ((ROW, told),)), [])
            self.same(package.fits(THREE, ((ROW, told),), (("a",), ("b",), ("c",))), False)
            self.same(package.first_lie(THREE, (LONE, (ROW, told))), 1)
        self.same(package.how_many_fit(THREE, (((), ()),)), 5)


class Pairs(Case):
    def test_pairs(self):
        for table, readings in fit_readings():
            homes = [home_of(cells) for cells in fitting(table, readings)]
            told = {word: [] for word in ("one", "apart", "open")}
            for one, other in itertools.combinations(table[0], 2):
                many = sum(home[one] == home[other] for home in homes)
                told["one" if many == len(homes) else "apart" if many == 0 else "open"].append((one, other))
            for call, word in ((package.ones_by, "one"), (package.aparts_by, "apart"), (package.open_by, "open")):
                self.same(call(table, readings), tuple(told[word]), (table, readings))
                self.same(call(as_lists(table), as_lists(readings)), tuple(told[word]))
            by = (table[0], tuple(told["one"]), tuple(told["apart"]))
            self.same(package.table_by(table, readings), by, (table, readings))
            whole = samenesses(by) == fitting(table, readings)
            self.same(package.is_whole(table, readings), whole, (table, readings))
            self.same(package.is_whole(as_lists(table), as_lists(readings)), whole)

    def test_whole_or_not(self):
        found = {package.is_whole(table, readings) for table, readings in fit_readings()}
        self.assertEqual(found, {True, False})
        for table in some_tables():
            self.same(package.is_whole(table, ()), True)
            words = {word: tuple(pair for pair in itertools.combinations(table[0], 2) if word_of(table, *pair) == word)
                     for word in ("one", "apart", "open")}
            self.same(package.table_by(table, ()), (table[0], words["one"], words["apart"]))
            self.same(package.open_by(table, ()), words["open"])


class Rows(Case):
    def test_what_a_row_will_tell(self):
        draw = random.Random(152)
        useless = {True: 0, False: 0}
        for table, readings in fit_readings():
            for row in (drawn_row(draw, table, 6), plain_get(table, draw.choice(table[0])), (),
                        *[one for one, _ in readings[:1]]):
                wanted = parts(row, fitting(table, readings))
                useless[len(wanted) == 1] += 1
                self.same(package.parts_by(table, readings, row), wanted, (table, readings, row))
                self.same(package.will_tell(table, readings, row), [told for told, _ in wanted], (table, readings, row))
                self.same(package.is_useless(table, readings, row), len(wanted) == 1, (table, readings, row))
                self.same(package.parts_by(as_lists(table), as_lists(readings), as_lists(row)), wanted)
                self.same(package.will_tell(table, in_turns(readings, True), in_turns(row, True)),
                          [told for told, _ in wanted])
        self.assertGreater(min(useless.values()), 100)

    def test_plain_gets(self):
        for table, readings in fit_readings():
            numbers = {name: worst(table, readings, name) for name in table[0]}
            for name in table[0]:
                self.same(package.worst_left(table, readings, name), numbers[name], (table, readings, name))
                self.same(package.worst_left(as_lists(table), as_lists(readings), name), numbers[name])
            best = min(table[0], key=lambda name: (numbers[name], name))
            wanted = best if len(fitting(table, readings)) > 1 else None
            self.same(package.next_get(table, readings), wanted, (table, readings))
            self.same(package.next_get(as_lists(table), as_lists(readings)), wanted)

    def test_plain_gets_lead_to_one(self):
        for table in some_tables():
            for hidden in samenesses(table)[::max(1, len(samenesses(table)) // 4)]:
                readings = ()
                while (name := package.next_get(table, readings)) is not None:
                    readings += (package.reading_of(table, plain_get(table, name), hidden),)
                self.assertLessEqual(len(readings), len(table[0]))
                self.same(package.all_that_fit(table, readings), [hidden], (table, hidden))

    def test_spare(self):
        held = 0
        for table, readings in fit_readings():
            wanted = tuple(place for place in range(len(readings)) if fitting(table, readings)
                           == fitting(table, readings[:place] + readings[place + 1:]))
            held += 0 < len(wanted) < len(readings)
            self.same(package.spare_readings(table, readings), wanted, (table, readings))
            self.same(package.spare_readings(as_lists(table), as_lists(readings)), wanted)
        self.assertGreater(held, 10)


class BesideProbes(Case):
    def test_probes_as_readings(self):
        for table in some_tables():
            probe = probes.probe_row(table)
            self.same(package.is_useless(table, (), probe), len(samenesses(table)) == 1)
            self.same(package.will_tell(table, (), probe), sorted(told_by(probe, cells) for cells in samenesses(table)))
            for cells in samenesses(table)[::max(1, len(samenesses(table)) // 9)]:
                one = package.reading_of(table, probe, cells)
                self.same(package.all_that_fit(table, (one,)), [cells])
                self.same(package.all_that_fit(table, (one,)), [probes.sameness_by(table, *one)])
                self.same(package.next_get(table, (one,)), None)
                self.same(package.is_whole(table, (one,)), True)

    def test_parts_without_readings(self):
        for table, row in asking_rows():
            self.same(package.parts_by(table, (), row), probes.told_parts(table, row), (table, row))
            self.same(package.is_useless(table, (), row), probes.how_many_told(table, row) == 1)
            self.same(len(package.will_tell(table, (), row)), probes.how_many_told(table, row))

    def test_readings_of_a_row_that_tells_all(self):
        for table, row in asking_rows()[::2]:
            alone = [len(package.all_that_fit(table, (package.reading_of(table, row, cells),))) == 1
                     for cells in samenesses(table)[::3]]
            if probes.tells_all(table, row):
                self.assertTrue(all(alone))
            many = {told: number for told, number in probes.told_parts(table, row)}
            for cells in samenesses(table)[::max(1, len(samenesses(table)) // 7)]:
                one = package.reading_of(table, row, cells)
                self.same(package.how_many_fit(table, (one,)), many[one[1]])


class IsReadings(Case):
    def test_readings(self):
        for table, readings in some_readings():
            self.same(package.is_readings(table, readings), True, (table, readings))
            self.same(package.is_readings(as_lists(table), readings), True)
            self.same(package.is_readings(table, list(readings)), False)
            self.same(package.is_readings(table, readings * 500), True)

    def test_told(self):
        row = (("get", "a", "s"), ("put", "a", 1), ("get", "b", "t"), ("get", "c", "a"))
        for told in ((), (("s", 1),), (("t", -BOUND),), (("a", 0), ("s", 9), ("t", 10 ** 5000)), (("a", 2), ("t", 1))):
            self.same(package.is_readings(THREE, ((row, told),)), True, told)
            self.same(package.is_readings(THREE, ((row, list(told)),)), False)
        for told in ((("t", 1), ("s", 1)), (("s", 1), ("s", 1)), (("s", 1), ("s", 2)), (("b", 1),), (("s", True),), "s",
                     (("s", None),), (("s", "1"),), (("s",),), (("s", 1, 1),), ("s", 1), (["s", 1],), ((1, "s"),), None,
                     ((("s",), 1),), ((["s"], 1),), (("s", (1,)),), (("", 1),), (("s", 1), None), ("ss",), 0, ((), ())):
            self.same(package.is_readings(THREE, ((row, told),)), False, told)

    def test_forms(self):
        self.same(package.is_readings(THREE, ()), True)
        self.same(package.is_readings(THREE, (((), ()),)), True)
        for thing in (LONE, [LONE], (list(LONE),), ((ROW,),), ((*LONE, ()),), (LONE, None), ((list(ROW), LONE[1]),),
                      None, ((as_lists(ROW), LONE[1]),), ((ROW[:3], LONE[1]),), (((("put", "x", 1),), ()),),
                      ((ROW, None),), 1, (((("put", "a", True),), ()),), ((ROW + ROW[3:], LONE[1]),), "ab", ("ab",),
                      (("", ""),), ((),), [], ((LONE[1], ROW),), (((), (("s", 1),)),)):
            self.same(package.is_readings(THREE, thing), False, thing)

    def test_however_many_deeds(self):
        spots = sorted("".join(signs) for signs in itertools.product("abcdefghijk", repeat=4))
        gets = tuple(("get", "a", spot) for spot in reversed(spots))
        told = tuple((spot, 1) for spot in spots)
        self.same(package.is_readings(THREE, ((gets, told),)), True)
        self.same(package.is_readings(THREE, ((gets[1:], told),)), False)
        self.same(package.is_readings(THREE, ((gets, told[::-1]),)), False)
        self.same(package.is_readings(THREE, ((gets, told * 2),)), False)
        self.same(package.is_readings(THREE, (((("put", "a", 1),) * 50000, ()),)), True)


class Errors(Case):
    def calls(self):
        """The functions that raise Unfit, with what they are handed behind the READINGS."""
        return ((package.ones_by, ()), (package.aparts_by, ()), (package.open_by, ()), (package.table_by, ()),
                (package.is_whole, ()), (package.will_tell, (ROW,)), (package.will_tell, ((),)),
                (package.parts_by, (ROW,)), (package.is_useless, (ROW,)), (package.worst_left, ("a",)),
                (package.next_get, ()), (package.spare_readings, ()))

    def test_unfit(self):
        for call, more in self.calls():
            for readings in ((LONE, LAST), ((ROW, ()),), (LONE, LONE, (ROW, (("s", 2),))),
                             (((), ()), (ROW, (("s", 5),)))):
                self.refused(Unfit, call, THREE, readings, *more)
                self.refused(Unfit, call, as_lists(THREE), as_lists(readings), *as_lists(more))
        for table, readings in lies():
            for call, more in self.calls():
                if not more:
                    self.refused(Unfit, call, table, readings)

    def test_no_name(self):
        for name in NONE:
            for readings in ((), (LONE,), (LONE, LAST), ((ROW, ()),)):
                self.refused(NoName, package.worst_left, THREE, readings, name, name=name)
                self.refused(NoName, package.worst_left, as_lists(THREE), as_lists(readings), name, name=name)

    def test_those_that_never_raise(self):
        for table, readings in lies():
            self.same(package.how_many_fit(table, readings), 0)
            self.same(package.all_that_fit(table, readings), [])
            self.same(package.fits(table, readings, samenesses(table)[0]), False)
            self.assertIsNotNone(package.first_lie(table, readings))


class Edges(Case):
    def test_no_readings(self):
        for none in ((), []):
            self.same(package.all_that_fit(THREE, none), samenesses(THREE))
            self.same(package.fits(THREE, none, (("a", "b", "c"),)), True)
            self.same(package.first_lie(THREE, none), None)
            self.same(package.ones_by(THREE, none), ())
            self.same(package.open_by(THREE, none), (("a", "b"), ("a", "c"), ("b", "c")))
            self.same(package.is_whole(THREE, none), True)
            self.same(package.will_tell(THREE, none, none), [()])
            self.same(package.parts_by(THREE, none, none), (((), 5),))
            self.same(package.is_useless(THREE, none, none), True)
            self.same(package.spare_readings(THREE, none), ())
            self.same(package.next_get(THREE, none), "a")

    def test_a_table_of_one_name(self):
        table, row = (("q",), (), ()), (("put", "q", 0), ("get", "q", "q"))
        self.same(package.next_get(table, ()), None)
        self.same(package.worst_left(table, (), "q"), 1)
        self.same(package.how_many_fit(table, ((row, (("q", 0),)),)), 1)
        self.same(package.table_by(table, ((row, (("q", 0),)),)), table)
        self.same(package.spare_readings(table, ((row, (("q", 0),)),)), (0,))
        self.refused(Unfit, package.next_get, table, ((row, ()),))

    def test_twelve_deeds(self):
        names = SIX[0]
        row = tuple(("put", name, number) for number, name in enumerate(names))
        row += tuple(("get", name, name) for name in names)
        for cells in samenesses(SIX)[::20]:
            one = package.reading_of(SIX, row, cells)
            self.same(one, reading(row, cells))
            self.same(package.all_that_fit(SIX, (one,) * 6), [cells])
            self.same(package.table_by(SIX, (one,))[0], names)
            self.same(package.spare_readings(SIX, (one,) * 6), (0, 1, 2, 3, 4, 5))
            self.same(package.next_get(SIX, (one,)), None)
        self.same([package.worst_left(SIX, (), name) for name in names], [52, 67, 87, 114, 151, 203])
        self.same(package.next_get(SIX, ()), "a")
        self.same(len(package.will_tell(SIX, (), row)), 203)

    def test_equal_numbers_at_least_names(self):
        # Both names part them alike: the lesser one is told.
        table = (("m", "n", "o"), (("m", "n"),), ())
        self.same([package.worst_left(table, (), name) for name in "mno"], [1, 1, 2])
        self.same(package.next_get(table, ()), "m")
        self.same(package.next_get((("k", "m", "n"), (("m", "n"),), ()), ()), "k")
