"""Point 8: two ROWS beside one another, against all SAMENESSES, and whatever lies there, gone through."""

import itertools
import random

from aliasrows import beside as package
from tests.helper import BOUND, Case, as_lists, do_the_same, drawn_row, foreign_cells, home_of, hung, in_turns
from tests.helper import number_of, outcome_of, outcomes, partings, put_behind, put_told, samenesses, some_row_pairs
from tests.helper import spots

TABLE = (("a", "b", "c", "d"), (("a", "b"),), (("b", "c"),))
ROW = (("put", "d", 1), ("put", "a", 2), ("get", "d", "s"), ("get", "c", "t"), ("put", "b", 3))
SECOND = (ROW[1], ROW[0], *ROW[2:])
LOOSE = (("x", "y", "z"), (), ())


def joined_lumps(table, cells):
    """How many lumps lie in each cell that has more than one."""
    counts = [sum(set(lump) <= set(cell) for lump in hung(table)) for cell in cells]
    return [many for many in counts if many > 1]


def told_by(row, cells, laid):
    """What is seen at each spot and name, if laid[cell] lies in the cells at first: marks that are no numbers."""
    home, lies, told = home_of(cells), dict(laid), {}
    for word, name, last in row:
        if word == "put":
            lies[home[name]] = last
        elif home[name] in lies:
            told[last] = lies[home[name]]
    return told, {name: lies[cell] for name, cell in home.items() if cell in lies}


def same_whatever(table, row, second):
    """Whether both do the same by each SAMENESS, whatever marks lie in whatever of the cells."""
    for cells in samenesses(table):
        for filled in {cells, (), cells[:1], cells[1:], cells[::2]}:
            laid = {cell: "mark of " + repr(cell) for cell in filled}
            if told_by(row, cells, laid) != told_by(second, cells, laid):
                return False
    return True


def is_parting_ahead(table, row, second, ahead):
    """Whether ahead, a ROW of the TABLE, is one without their spots that tells them apart."""
    if set(spots(ahead)) & {*spots(row), *spots(second)}:
        return False
    return any(outcome_of(ahead + row, cells) != outcome_of(ahead + second, cells) for cells in samenesses(table))


def small_pairs():
    """Those with few SAMENESSES."""
    return [found for found in some_row_pairs() if len(samenesses(found[0])) <= 15]


class DoTheSame(Case):
    def test_same_rows(self):
        counts = {True: 0, False: 0}
        for table, row, second in some_row_pairs():
            same = outcomes(table, row) == outcomes(table, second)
            counts[same] += 1
            self.same(package.same_rows(table, row, second), same, (table, row, second))
            self.same(package.same_rows(table, second, row), same, (table, row, second))
            self.same(package.same_rows(as_lists(table), in_turns(row, True), as_lists(second)), same)
            self.same(package.same_rows(table, row, row), True)
        self.assertGreater(min(counts.values()), 150)

    def test_partings(self):
        for table, row, second in some_row_pairs():
            found = partings(table, row, second)
            self.same(package.partings(table, row, second), found, (table, row, second))
            self.same(package.partings(table, row, row), [])

    def test_parting(self):
        counts = {}
        for table, row, second in some_row_pairs():
            found = partings(table, row, second)
            got = package.parting(table, row, second)
            fewest = package.fewest_joined(table, row, second)
            if found == []:
                self.same((got, fewest), (None, None), (table, row, second))
                continue
            self.assertIn(got, found, (table, row, second))
            most = max(len(cells) for cells in found)
            self.same(len(got), most, (table, row, second))
            self.same(fewest, len(hung(table)) - most, (table, row, second))
            counts[fewest] = counts.get(fewest, 0) + 1
        self.assertEqual(sorted(counts), [0, 1, 2])
        self.assertGreater(min(counts.values()), 9)

    def test_is_parting(self):
        for table, row, second in some_row_pairs():
            found = partings(table, row, second)
            for cells in samenesses(table)[::5] + [*foreign_cells()[::9], None, "a", 1, [], found]:
                self.same(package.is_parting(table, row, second, cells), cells in found, (table, row, second, cells))
            for cells in found[:2]:
                self.same(package.is_parting(table, row, second, cells), True, (table, row, second, cells))
                self.same(package.is_parting(table, row, second, as_lists(cells)), False)
                self.same(package.is_parting(table, row, row, cells), False)

    def test_guarantee_of_three_lumps(self):
        for table, row, second in some_row_pairs():
            puts = spots(row) == spots(second) == []
            ways = [cells for cells in samenesses(table)
                    if joined_lumps(table, cells) in ([], [2]) or not puts and joined_lumps(table, cells) == [3]]
            same = all(outcome_of(row, cells) == outcome_of(second, cells) for cells in ways)
            self.same(package.same_rows(table, row, second), same, (table, row, second))

    def test_two_gets_of_one_spot_through_unlike_names(self):
        six = tuple("abcdef")
        draw = random.Random(21)
        for aparts in ((), (("a", "b"),), (("a", "b"), ("c", "d")), (("a", "c"), ("b", "d"), ("e", "f"))):
            table = (six, (), aparts)
            for _ in range(60):
                row, second = (drawn_row(draw, table, draw.randrange(4)) for _ in range(2))
                row = tuple(deed for deed in row if deed[0] == "put") + (("get", draw.choice(six), "s"),)
                second = tuple(deed for deed in second if deed[0] == "put") + (("get", draw.choice(six), "s"),)
                late = tuple(("put", name, 9) for name in six)
                for one, other in ((row, second), (row + late, second + late)):
                    self.same(package.partings(table, one, other), partings(table, one, other), (table, one, other))
                    self.same(package.same_rows(table, one, other), do_the_same(table, one, other), (table, one, other))

    def test_the_same_deeds_behind_both(self):
        draw = random.Random(22)
        for table, row, second in small_pairs():
            if package.same_rows(table, row, second):
                behind = [deed for deed in drawn_row(draw, table, 5) if deed[2] not in spots(row) + spots(second)]
                self.same(package.same_rows(table, row + tuple(behind), second + tuple(behind)), True)


class AtSpotsAndNames(Case):
    def test_spots(self):
        for table, row, second in some_row_pairs():
            alike, unlike = [], []
            for spot in sorted(set(spots(row)) & set(spots(second))):
                same = [number_of(row, put_told(row, cells, spot)) == number_of(second, put_told(second, cells, spot))
                        for cells in samenesses(table)]
                alike += [spot] * all(same)
                unlike += [spot] * (not any(same))
            self.same(package.alike_spots(table, row, second), tuple(alike), (table, row, second))
            self.same(package.unlike_spots(table, row, second), tuple(unlike), (table, row, second))

    def test_names(self):
        for table, row, second in some_row_pairs():
            alike, unlike = [], []
            for name in table[0]:
                same = [number_of(row, put_behind(row, cells, name)) ==
                        number_of(second, put_behind(second, cells, name)) for cells in samenesses(table)]
                alike += [name] * all(same)
                unlike += [name] * (not any(same))
            self.same(package.alike_names(table, row, second), tuple(alike), (table, row, second))
            self.same(package.unlike_names(table, row, second), tuple(unlike), (table, row, second))

    def test_unlike_spots(self):
        row, second = (("get", "a", "s"), ("get", "d", "t"), ("get", "c", "u")), (("put", "a", 1), ("get", "c", "t"))
        self.same(package.alike_spots(TABLE, row, second), ("t",))
        self.same(package.unlike_spots(TABLE, row, second), ())
        second = second[:1] + (("get", "b", "s"), ("get", "c", "v"), ("get", "c", "u"))
        self.same(package.alike_spots(TABLE, row, second), ("u",))
        self.same(package.unlike_spots(TABLE, row, second), ("s",))
        self.same(package.unlike_spots(TABLE, row[:1], ROW), ("s",))

    def test_a_spot_that_only_one_has(self):
        self.same(package.same_rows(TABLE, (("get", "a", "s"),), ()), True)
        self.same(package.same_rows(TABLE, (("get", "a", "s"),), (("get", "d", "t"),)), True)
        self.same(package.same_rows(TABLE, ROW[:2], ROW[:3]), False)
        self.same(package.same_rows(TABLE, ROW[:3], ROW[:2] + (("get", "d", "t"),)), False)
        self.same(package.same_whatever(TABLE, (("get", "a", "s"),), ()), False)


class Tellings(Case):
    def test_tells_as_much(self):
        counts = {True: 0, False: 0}
        for table, row, second in some_row_pairs():
            kept = {}
            for one, other in zip(outcomes(table, row), outcomes(table, second)):
                kept.setdefault(one, set()).add(other)
            wanted = all(len(others) == 1 for others in kept.values())
            counts[wanted] += 1
            self.same(package.tells_as_much(table, row, second), wanted, (table, row, second))
            self.same(package.tells_as_much(table, row, row), True)
            got = package.untold_pair(table, row, second)
            if wanted:
                self.same(got, None, (table, row, second))
                continue
            self.assertIs(type(got), tuple)
            first, last = got
            self.assertTrue(first < last and first in samenesses(table) and last in samenesses(table))
            self.same(outcome_of(row, first), outcome_of(row, last), (table, row, second))
            self.assertNotEqual(outcome_of(second, first), outcome_of(second, last), (table, row, second))
        self.assertGreater(min(counts.values()), 50)

    def test_is_untold_pair(self):
        held = 0
        for table, row, second in small_pairs():
            ways = list(zip(samenesses(table), outcomes(table, row), outcomes(table, second)))
            for (first, one, far), (last, other, late) in itertools.product(ways[::2], ways[1::3]):
                for pair, fit in (((first, last), first < last), ((last, first), last < first)):
                    wanted = fit and one == other and far != late
                    held += wanted
                    self.same(package.is_untold_pair(table, row, second, pair), wanted, (table, row, second, pair))
        self.assertGreater(held, 60)

    def test_things_that_are_no_untold_pair(self):
        first, last = (("a", "b"), ("c",), ("d",)), (("a", "b"), ("c", "d"))
        low = (("get", "d", "s"),)
        self.same(package.is_untold_pair(TABLE, low, ROW, (first, last)), True)
        for thing in ((last, first), (first, first), (first,), (first, last, last), [first, last], (first, list(last)),
                      (first, (("a", "b"), ["c", "d"])), first, last, None, (None, last), (first, None), (), "ab",
                      (first, (("a",), ("b", "c", "d"))), ((("a",), ("b",), ("c",), ("d",)), last), (1, 2), (True, 1)):
            self.same(package.is_untold_pair(TABLE, low, ROW, thing), False, thing)


class WhateverLiesThere(Case):
    def test_same_whatever(self):
        counts = {True: 0, False: 0}
        for table, row, second in some_row_pairs():
            wanted = same_whatever(table, row, second)
            counts[wanted] += 1
            self.same(package.same_whatever(table, row, second), wanted, (table, row, second))
            self.same(package.same_whatever(table, row, row), True)
            got = package.parting_ahead(table, row, second)
            if wanted:
                self.same(got, None, (table, row, second))
                continue
            self.assertIs(type(got), tuple)
            self.assertLessEqual(len(got), len(table[0]))
            for word, name, number in got:
                self.assertEqual(word, "put")
                self.assertIn(name, table[0])
                self.assertTrue(type(number) is int and -BOUND <= number <= BOUND)
            self.assertTrue(is_parting_ahead(table, row, second, got), (table, row, second))
        self.assertGreater(min(counts.values()), 90)

    def test_all_rows_of_puts_ahead(self):
        table = (("a", "b", "c"), (), (("a", "b"),))
        draw = random.Random(23)
        for _ in range(40):
            row, second = drawn_row(draw, table, 3), drawn_row(draw, table, 3)
            used = {last for word, _, last in row + second if word == "put"}
            ahead = []
            for numbers in itertools.product([None, *used, 77, 78, 79], repeat=3):
                ahead.append(tuple(("put", name, number) for name, number in zip("abc", numbers) if number is not None))
            wanted = any(is_parting_ahead(table, row, second, puts) for puts in ahead)
            self.same(package.same_whatever(table, row, second), not wanted, (row, second))

    def test_numbers_that_are_used(self):
        names = tuple("abcdef")
        table = (names, (), ())
        row = tuple(("put", "a", number) for number in range(8))
        second = tuple(("put", "a", number) for number in (8, 9, 10, 11, 12, 13, 14, 7))
        self.same(package.same_whatever(table, row, second), True)
        far = (("put", "f", BOUND), ("put", "f", -BOUND), ("get", "f", "s"))
        ahead = package.parting_ahead(table, far, row)
        self.assertTrue(is_parting_ahead(table, far, row, ahead))
        self.same(package.is_parting_ahead(table, far, row, ahead), True)

    def test_puts_back_what_lay_there(self):
        table, number = (("p", "q"), (), ()), (("put", "p", 0),)
        self.same(package.same_rows(table, number * 2, number), True)
        self.same(package.same_whatever(table, number * 2, number), True)
        self.same(package.same_whatever(table, (), number), False)
        self.same(package.is_parting_ahead(table, (), number, ()), True)
        self.same(package.is_parting_ahead(table, (), number, number), False)
        self.same(package.is_parting_ahead(table, (), number, (("put", "p", 0), ("put", "q", 0))), False)
        self.same(package.is_parting_ahead(table, (), number, (("put", "q", 0), ("put", "p", 0))), False)
        self.same(package.is_parting_ahead(table, (), number, (("put", "q", 1), ("put", "p", 0))), False)
        self.same(package.is_parting_ahead(table, (), number, (("put", "p", 0), ("put", "q", 1))), True)

    def test_is_parting_ahead(self):
        draw = random.Random(24)
        counts = {True: 0, False: 0}
        for table, row, second in small_pairs():
            for many in (0, 1, 2, 4, 9):
                ahead = drawn_row(draw, table, many)
                wanted = is_parting_ahead(table, row, second, ahead)
                counts[wanted] += 1
                self.same(package.is_parting_ahead(table, row, second, ahead), wanted, (table, row, second, ahead))
                if many > 0:
                    self.same(package.is_parting_ahead(table, row, second, as_lists(ahead)), False)
                    self.same(package.is_parting_ahead(table, row, second, ahead + ahead + (None,)), False)
        self.assertGreater(min(counts.values()), 150)

    def test_spots_of_both(self):
        row, second = (("get", "a", "s"),), (("get", "d", "t"),)
        put = (("put", "a", 1),)
        self.same(package.is_parting_ahead(TABLE, row, second, put), True)
        for spot, wanted in (("s", False), ("t", False), ("u", True), ("a", True), ("st", True)):
            self.same(package.is_parting_ahead(TABLE, row, second, put + (("get", "a", spot),)), wanted, spot)
        self.same(package.is_parting_ahead(TABLE, row, second, (("put", "x", 1),)), False)
        self.same(package.is_parting_ahead(TABLE, row, second, (("put", "a", True),)), False)
        self.same(package.is_parting_ahead(TABLE, row, second, (("put", "a", 10 ** 400),)), True)
        self.same(package.is_parting_ahead(TABLE, row, second, put + (("get", "a", "u"), ("get", "c", "u"))), False)

    def test_very_many_deeds_ahead(self):
        row, second = (("get", "a", "s"),), (("get", "d", "s"),)
        many = tuple(("put", name, number) for number, name in enumerate("abcd" * 5000))
        self.same(package.is_parting_ahead(TABLE, row, second, many), True)
        self.same(package.is_parting_ahead(TABLE, row, second, many + (("put", "a", 4), ("put", "d", 4))), False)
        self.same(package.is_parting_ahead(TABLE, row, second, many + (("put", "a", 4), ("put", "c", 4))), True)


class Edges(Case):
    def test_the_empty_row(self):
        self.same(package.same_rows(TABLE, (), []), True)
        self.same(package.parting(TABLE, [], ()), None)
        self.same(package.fewest_joined(TABLE, (), ()), None)
        self.same(package.partings(TABLE, (), ()), [])
        self.same(package.alike_names(TABLE, (), ()), ("a", "b", "c", "d"))
        self.same(package.unlike_names(TABLE, (), ()), ())
        self.same(package.alike_spots(TABLE, (), ROW), ())
        self.same(package.tells_as_much(TABLE, (), ()), True)
        self.same(package.tells_as_much(TABLE, (), ROW), False)
        self.same(package.tells_as_much(TABLE, ROW, ()), True)
        self.same(package.parting_ahead(TABLE, (), ()), None)
        self.same(package.is_parting_ahead(TABLE, (), (), ()), False)
        self.same(package.is_parting_ahead(TABLE, ROW, (), ()), True)

    def test_a_table_of_one_name(self):
        table, only = (("q",), (), ()), (("q",),)
        row, second = (("put", "q", 1), ("get", "q", "q")), (("put", "q", 2), ("get", "q", "q"))
        self.same(package.parting(table, row, second), only)
        self.same(package.partings(table, row, second), [only])
        self.same(package.fewest_joined(table, row, second), 0)
        self.same(package.unlike_spots(table, row, second), ("q",))
        self.same(package.unlike_names(table, row, second), ("q",))
        self.same(package.tells_as_much(table, row, second), True)
        self.same(package.untold_pair(table, row, second), None)

    def test_three_of_six_names(self):
        table = (tuple("abcdef"), (), (("a", "f"),))
        late = tuple(("put", name, 9) for name in table[0])
        row = (("put", "b", 1), ("put", "d", 2), ("get", "e", "s"), *late)
        second = (row[1], row[0], *row[2:])
        self.same(package.parting(table, row, second), (("a",), ("b", "d", "e"), ("c",), ("f",)))
        self.same(package.fewest_joined(table, row, second), 2)
        row = (("put", "a", 1), ("put", "f", 2), ("get", "e", "s"), *late)
        self.same(package.same_rows(table, row, (row[1], row[0], *row[2:])), True)

    def test_puts_that_matter_only_as_one(self):
        row, second = (("put", "x", 1), ("put", "y", 2)), (("put", "y", 2), ("put", "x", 1))
        self.same(package.fewest_joined(LOOSE, row, second), 1)
        self.same(package.parting(LOOSE, row, second), (("x", "y"), ("z",)))
        self.same(package.partings(LOOSE, row, second), [(("x", "y"), ("z",)), (("x", "y", "z"),)])
