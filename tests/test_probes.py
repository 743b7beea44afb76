"""Point 14: what ROWS tell, against all SAMENESSES and all sets of names, hidden SAMENESSES, and the errors."""

import functools
import itertools
import random

from aliasrows import probes as package
from aliasrows.errors import CanNot, NoSpot, Unfit
from tests.helper import BOUND, Case, as_lists, foreign_cells, hung, in_turns, loose_rows, samenesses, some_rows
from tests.helper import some_tables, subsets_by_size, told_by, word_of

THREE, STAR = (("a", "b", "c"), (), ()), (("h", "x", "y", "z"), (), (("x", "y"), ("x", "z"), ("y", "z")))
SURE = (("a", "b", "c"), (("a", "b"),), (("b", "c"),))
PUTS = (("put", "a", 1), ("put", "b", 2), ("put", "c", 3))
ROW = (*PUTS, ("get", "a", "s"))
WHOLE = (*ROW, ("get", "b", "t"))
SIX = (tuple("abcdef"), (), ())


def gets_of(row):
    return [deed for deed in row if deed[0] == "get"]


def tells_all(table, row):
    ways = samenesses(table)
    return len({told_by(row, cells) for cells in ways}) == len(ways)


@functools.lru_cache(maxsize=None)
def covers(table):
    """All COVERS, those with fewer names first, each time ascending."""
    lumps = hung(table)
    pairs = [(one, other) for one, other in itertools.combinations(lumps, 2)
             if word_of(table, one[0], other[0]) != "apart"]
    return tuple(some for some in subsets_by_size(table[0])
                 if all(set(some) & set(one + other) for one, other in pairs))


@functools.lru_cache(maxsize=None)
def fewest(table):
    return [some for some in covers(table) if len(some) == len(covers(table)[0])]


@functools.lru_cache(maxsize=None)
def asking_rows():
    """Pairs of a TABLE and a ROW of up to twelve DEEDS: puts, then gets, mixed a bit; some tell all."""
    draw = random.Random(141)
    found = list(some_rows()[::3] + loose_rows()[::9])
    for table in some_tables():
        for _ in range(4):
            names = draw.sample(table[0], len(table[0]))
            row = [("put", name, draw.choice((number, number, number, 1))) for number, name in enumerate(names)]
            row += [("get", name, name) for name in names[:draw.randrange(len(names) + 1)]]
            if draw.random() < 0.5 and len(row) > 1:
                place = draw.randrange(len(row) - 1)
                row[place:place + 2] = [row[place + 1], row[place]]
            found.append((table, tuple(row)))
    return tuple(found)


class Telling(Case):
    def test_what_is_told(self):
        counts = {True: 0, False: 0}
        for table, row in asking_rows():
            told = [told_by(row, cells) for cells in samenesses(table)]
            parts = tuple((one, told.count(one)) for one in sorted(set(told)))
            whole = len(parts) == len(told)
            counts[whole] += 1
            self.same(package.told_parts(table, row), parts, (table, row))
            self.same(package.how_many_told(table, row), len(parts), (table, row))
            self.same(package.tells_all(table, row), whole, (table, row))
            self.same(package.tells_all(as_lists(table), as_lists(row)), whole)
            self.same(package.told_parts(as_lists(table), in_turns(row, True)), parts)
        self.assertGreater(min(counts.values()), 30)

    def test_alike_told(self):
        for table, row in asking_rows():
            got = package.alike_told(table, row)
            if tells_all(table, row):
                self.same(got, None, (table, row))
                continue
            self.assertIs(type(got), tuple)
            one, other = got
            self.assertNotEqual(one, other)
            self.assertIn(one, samenesses(table))
            self.assertIn(other, samenesses(table))
            self.assertEqual(told_by(row, one), told_by(row, other))
            self.same(package.is_alike_told(table, row, got), True)
            self.same(package.is_alike_told(table, row, got[::-1]), True)
            self.same(package.is_alike_told(table, row, list(got)), False)

    def test_is_alike_told(self):
        counts = {True: 0, False: 0}
        for table, row in asking_rows()[::2]:
            ways = samenesses(table)
            things = samenesses(table)[::max(1, len(ways) // 6)] + list(foreign_cells()[::25]) + [None, "a"]
            for one, other in itertools.product(things, repeat=2):
                wanted = one != other and one in ways and other in ways and told_by(row, one) == told_by(row, other)
                counts[wanted] += 1
                self.same(package.is_alike_told(table, row, (one, other)), wanted, (table, row, one, other))
        self.assertGreater(min(counts.values()), 500)
        pair = ((("a",), ("b",), ("c",)), (("a",), ("b", "c")))
        for thing in (pair[:1], pair * 2, pair[0], (*pair, None), (pair,), (as_lists(pair[0]), pair[1]), (), None, 2):
            self.same(package.is_alike_told(THREE, ROW, thing), False, thing)

    def test_twelve_deeds(self):
        names = SIX[0]
        row = tuple(("put", name, number) for number, name in enumerate(names))
        row = row + tuple(("get", name, name) for name in names)
        self.same(package.tells_all(SIX, row), True)
        self.same(package.how_many_told(SIX, row), 203)
        self.same(package.tells_all(SIX, row[:-1]), True)
        self.same(package.tells_all(SIX, row[:-2]), False)
        self.same(package.is_probe(SIX, row), False)
        self.same(package.is_probe(SIX, row[:-1]), True)
        self.same(package.how_many_told(SIX, row[:8]), 26)


class Covers(Case):
    def test_is_cover(self):
        for table in some_tables():
            for some in subsets_by_size(table[0]):
                self.same(package.is_cover(table, some), some in covers(table), (table, some))
                self.same(package.is_cover(as_lists(table), some), some in covers(table))
                self.same(package.is_cover(table, list(some)), False)
                for other in (some[::-1], some + some[-1:], some + ("zzzzzzzzz",), some + (None,)):
                    if other != some:
                        self.same(package.is_cover(table, other), False, (table, other))

    def test_fewest(self):
        for table in some_tables():
            self.same(package.fewest_gets(table), len(fewest(table)[0]), table)
            self.same(package.least_cover(table), fewest(table)[0], table)
            self.same(package.how_many_covers(table), len(fewest(table)), table)
            self.same(package.least_cover(as_lists(table)), fewest(table)[0])

    def test_lumps_of_several_names(self):
        table = (("a", "b", "c", "d", "e"), (("a", "b"), ("c", "d")), ())
        self.same(package.fewest_gets(table), 2)
        self.same(package.least_cover(table), ("a", "c"))
        self.same(package.how_many_covers(table), 8)
        self.same(package.is_cover(table, ("a", "b")), False)
        self.same(package.is_cover(table, ("b", "e")), True)

    def test_guarantee_that_gets_make_a_cover(self):
        looked = 0
        for table, row in asking_rows():
            if tells_all(table, row):
                names = tuple(sorted({deed[1] for deed in gets_of(row)}))
                self.same(package.is_cover(table, names), True, (table, row))
                self.assertGreaterEqual(len(gets_of(row)), package.fewest_gets(table))
                looked += 1
        self.assertGreater(looked, 40)

    def test_no_row_with_fewer_gets_tells_all(self):
        # Whatever is put: unlike numbers, twice through each name, and the gets wherever among them.
        for table in (THREE, SURE, (("a", "b", "c"), (), (("a", "b"),)), (("a", "b"), (), ())):
            many = package.fewest_gets(table)
            names = table[0]
            puts = tuple(("put", name, number) for number, name in enumerate(names + names[:1]))
            for order in itertools.permutations(puts):
                for some in itertools.product(names, repeat=max(0, many - 1)):
                    for places in itertools.combinations_with_replacement(range(len(puts) + 1), len(some)):
                        row = list(order)
                        for place, name, spot in reversed(list(zip(places, some, "stuv"))):
                            row.insert(place, ("get", name, spot))
                        self.same(package.tells_all(table, tuple(row)), many == 0, (table, row))


class Probes(Case):
    def test_probe_row(self):
        for table in some_tables() + (SIX, STAR):
            row = package.probe_row(table)
            self.assertIs(type(row), tuple)
            gets = gets_of(row)
            puts = [deed for deed in row if deed[0] == "put"]
            self.assertEqual(len(gets), len(fewest(table)[0]), table)
            self.assertEqual(len({deed[2] for deed in gets}), len(gets))
            homes = [lump for deed in puts for lump in hung(table) if deed[1] in lump]
            self.assertEqual(sorted(homes), sorted(hung(table)), table)
            self.assertTrue(tells_all(table, row), (table, row))
            self.same(package.is_probe(table, row), True)
            self.same(package.probe_row(as_lists(table)), row)

    def test_is_probe(self):
        counts = {True: 0, False: 0}
        for table, row in asking_rows():
            wanted = tells_all(table, row) and len(gets_of(row)) == len(fewest(table)[0])
            counts[wanted] += 1
            self.same(package.is_probe(table, row), wanted, (table, row))
            self.same(package.is_probe(table, list(row)), False)
            probe = package.probe_row(table)
            more = (("put", table[0][0], 77),)
            for other in (probe + more, more + probe, more * 20 + probe, probe[:2] + more + probe[2:]):
                self.same(package.is_probe(table, other), tells_all(table, other), (table, other))
            self.same(package.is_probe(table, probe + (("get", table[0][0], "zzzz"),)), False)
            if gets_of(probe):
                self.same(package.is_probe(table, probe[:-1]), False)
        self.assertGreater(min(counts.values()), 15)

    def test_very_long_probes(self):
        names, probe = SIX[0], package.probe_row(SIX)
        noise = tuple(("put", names[place % 6], place) for place in range(60000))
        self.same(package.is_probe(SIX, noise + probe), True)
        self.same(package.is_probe(SIX, probe + noise), True)
        self.same(package.is_probe(SIX, noise), False)
        self.same(package.is_probe(SIX, noise + probe[6:]), True)
        self.same(package.is_probe(SIX, (("put", "a", 1),) * 60000 + probe[6:]), False)
        spots = ["".join(signs) for signs in itertools.product("abcdefgh", repeat=5)]
        self.same(package.is_probe(SIX, probe[:6] + tuple(("get", "a", spot) for spot in spots)), False)

    def test_puts_between_gets(self):
        puts = (("put", "a", 1), ("put", "b", 2))
        one, other = ("get", "a", "s"), ("get", "b", "t")
        for row in itertools.permutations((*puts, ("put", "c", 3), one, other)):
            self.same(package.is_probe(THREE, row), tells_all(THREE, row), row)
        for row in itertools.permutations((*puts, ("put", "a", 5), one)):
            self.same(package.is_probe((("a", "b"), (), ()), row), tells_all((("a", "b"), (), ()), row), row)


class Back(Case):
    def test_sameness_by(self):
        counts = {}
        for table, row in asking_rows():
            ways = samenesses(table)
            told = sorted({told_by(row, cells) for cells in ways})
            for one in told[::max(1, len(told) // 6)] + [(("zz", 1),), told[0] + (("zzz", 0),), told[-1][1:], ()]:
                found = [cells for cells in ways if told_by(row, cells) == one]
                counts[min(len(found), 2)] = counts.get(min(len(found), 2), 0) + 1
                if len(found) == 1:
                    self.same(package.sameness_by(table, row, one), found[0], (table, row, one))
                    self.same(package.sameness_by(as_lists(table), as_lists(row), as_lists(one)), found[0])
                else:
                    self.refused(Unfit if found else CanNot, package.sameness_by, table, row, one)
                    self.refused(Unfit if found else CanNot, package.sameness_by, table, as_lists(row), as_lists(one))
        self.assertGreater(min(counts[0], counts[1], counts[2]), 100)

    def test_told_back(self):
        for table in some_tables():
            for hidden in samenesses(table)[::max(1, len(samenesses(table)) // 25)]:
                asked = []

                def asker(row):
                    asked.append(row)
                    return told_by(row, hidden)

                self.same(package.told_back(table, asker), hidden, (table, hidden))
                self.assertLessEqual(sum(len(gets_of(row)) for row in asked), len(fewest(table)[0]))
                for row in asked:
                    self.check_row(table, row)
                self.same(package.told_back(as_lists(table), lambda row: as_lists(told_by(row, hidden))), hidden)

    def check_row(self, table, row):
        """What is handed to an asker is a ROW of the TABLE, of tuples."""
        self.assertIs(type(row), tuple)
        self.assertLessEqual(len(row), 12)
        for deed in row:
            self.assertIs(type(deed), tuple)
            self.assertIn(deed[0], ("put", "get"))
            self.assertIn(deed[1], table[0])
            self.assertIs(type(deed[2]), int if deed[0] == "put" else str)

    def test_each_sameness_of_six_names(self):
        for hidden in samenesses(SIX):
            self.same(package.told_back(SIX, lambda row: told_by(row, hidden)), hidden)

    def test_an_asker_that_raises(self):
        class Odd(Exception):
            pass

        raised = (Odd("x"), KeyError(1), NoSpot("s"), Unfit(), CanNot(), ValueError("y"), StopIteration(3))
        for table in (THREE, STAR, SIX, SURE):
            for error in raised:
                def asker(row):
                    raise error

                with self.assertRaises(type(error)) as caught:
                    package.told_back(table, asker)
                self.assertIs(caught.exception, error)

    def test_an_asker_by_name(self):
        hidden = (("h", "y"), ("x",), ("z",))
        self.same(package.told_back(asker=lambda row: told_by(row, hidden), table=STAR), hidden)


class Edges(Case):
    def test_the_empty_row(self):
        for none in ((), []):
            self.same(package.tells_all(THREE, none), False)
            self.same(package.tells_all(SURE, none), True)
            self.same(package.how_many_told(THREE, none), 1)
            self.same(package.told_parts(THREE, none), (((), 5),))
            self.same(package.alike_told(SURE, none), None)
            self.same(package.sameness_by(SURE, none, none), (("a", "b"), ("c",)))
            self.refused(Unfit, package.sameness_by, THREE, none, none)
            self.refused(CanNot, package.sameness_by, SURE, none, (("s", 1),))
        self.same(package.is_probe(SURE, ()), True)
        self.same(package.is_probe(SURE, []), False)
        self.same(package.is_probe(THREE, ()), False)

    def test_a_table_of_one_name(self):
        table = (("q",), (), ())
        self.same(package.tells_all(table, ()), True)
        self.same(package.is_cover(table, ()), True)
        self.same(package.is_cover(table, ("q",)), True)
        self.same(package.fewest_gets(table), 0)
        self.same(package.least_cover(table), ())
        self.same(package.how_many_covers(table), 1)
        self.same(package.told_back(table, lambda row: ()), (("q",),))
        self.same(package.is_probe(table, (("put", "q", BOUND),)), True)
        self.same(package.is_probe(table, (("put", "q", 1), ("get", "q", "q"))), False)

    def test_all_apart(self):
        table = (SIX[0], (), tuple(itertools.combinations(SIX[0], 2)))
        self.same(package.fewest_gets(table), 0)
        self.same(package.least_cover(table), ())
        self.same(package.how_many_covers(table), 1)
        self.same(package.tells_all(table, ()), True)
        self.same(package.told_back(table, lambda row: ()), tuple((name,) for name in SIX[0]))

    def test_six_names(self):
        self.same(package.fewest_gets(SIX), 5)
        self.same(package.least_cover(SIX), tuple("abcde"))
        self.same(package.how_many_covers(SIX), 6)
        ring = (SIX[0], (), tuple(pair for pair in itertools.combinations(SIX[0], 2)
                                  if abs(ord(pair[0]) - ord(pair[1])) not in (1, 5)))
        self.same(package.fewest_gets(ring), 3)
        self.same(package.least_cover(ring), ("a", "c", "e"))
        self.same(package.how_many_covers(ring), 2)

    def test_order_of_what_is_told(self):
        self.refused(CanNot, package.sameness_by, THREE, WHOLE, (("s", 3), ("t", 1)))
        self.same(package.sameness_by(THREE, WHOLE, (("s", 3), ("t", 2))), (("a", "c"), ("b",)))
        self.refused(CanNot, package.sameness_by, THREE, WHOLE, (("s", 3),))
