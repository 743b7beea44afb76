"""Point 12: plain ROWS, against all ROWS that exchanges lead to and all orders of DEEDS, and the errors."""

import functools
import itertools
import random

from aliasrows import plainrow as package
from aliasrows.errors import NoNumber, Unfit
from tests.helper import BOUND, Case, alike, as_lists, in_turns, loose_row, loose_rows, passes, some_rows, some_tables
from tests.helper import spots, subsets

TABLE = (("a", "b", "c", "d"), (("a", "b"),), (("b", "c"),))
ROW = (("put", "a", 1), ("get", "c", "x"), ("put", "d", 2), ("get", "b", "y"))
APART = (("p", "q"), (), (("p", "q"),))
WIDE = (("put", "p", 1), ("put", "p", 2), ("put", "q", 1), ("put", "q", 2))
SIX = tuple("abcdef")
NO_NUMBERS = (-1, -2, -BOUND, BOUND, 10 ** 400, -10 ** 400)


@functools.lru_cache(maxsize=None)
def group(table, row):
    """All ROWS that are alike, ascending."""
    return sorted(alike(table, row))


@functools.lru_cache(maxsize=None)
def begun(table, row):
    """The plain ROWS of all beginnings of all ROWS that are alike, ascending."""
    heads = {other[:many] for other in group(table, row) for many in range(len(row) + 1)}
    return sorted({group(table, head)[0] for head in heads})


@functools.lru_cache(maxsize=None)
def deed_sets():
    """Pairs of a TABLE and a set of none to five DEEDS, no spot in two of them."""
    draw = random.Random(121)
    found = []
    for table in some_tables():
        for many in (0, 1, 2, 3, 4, 5):
            found.append((table, tuple(sorted(set(loose_row(draw, table, many))))))
    return tuple(found)


@functools.lru_cache(maxsize=None)
def all_forms(table, deeds):
    return [row for row in itertools.permutations(deeds) if group(table, row)[0] == row]


class Plain(Case):
    def test_plain_row(self):
        counts = {True: 0, False: 0}
        for table, row in loose_rows():
            found = group(table, row)
            self.same(package.plain_row(table, row), found[0], (table, row))
            for other in found[::max(1, len(found) // 5)] + [row]:
                counts[other == found[0]] += 1
                self.same(package.plain_row(table, as_lists(other)), found[0], (table, other))
                self.same(package.is_plain(table, other), other == found[0], (table, other))
                self.same(package.is_plain(table, in_turns(other, True)), other == found[0])
        self.assertGreater(min(counts.values()), 500)

    def test_guarantee_that_alike_rows_have_one_plain_row(self):
        for table, row in loose_rows():
            others = sorted(set(itertools.permutations(row)))
            for other in others[::max(1, len(others) // 20)]:
                same = package.plain_row(table, row) == package.plain_row(table, other)
                self.same(same, other in alike(table, row), (table, row, other))

    def test_guarantee_of_the_least_that_can_stand_next(self):
        for table, row in loose_rows() + some_rows():
            rest, found = list(row), []
            while rest:
                free = [deed for place, deed in enumerate(rest)
                        if all(passes(table, deed, one) for one in rest[:place])]
                found.append(min(free))
                rest.remove(min(free))
            self.same(package.plain_row(table, row), tuple(found), (table, row))

    def test_rows_of_eight(self):
        for table, row in some_rows():
            plain = package.plain_row(table, row)
            self.same(package.is_plain(table, plain), True, (table, row))
            self.same(package.number_alike(table, row, plain), 0, (table, row))
            self.same(package.nth_alike(table, row, 0), plain)
            number = package.number_alike(table, plain, row)
            self.same(package.nth_alike(table, plain, number), row, (table, row))
            last = package.how_many_alike(table, row) - 1
            self.same(package.number_alike(table, row, package.nth_alike(table, row, last)), last)
            self.refused(NoNumber, package.nth_alike, table, row, last + 1, number=last + 1)


class Numbered(Case):
    def test_numbers(self):
        for table, row in loose_rows():
            found = group(table, row)
            self.same(package.how_many_alike(table, row), len(found), (table, row))
            self.same(package.how_many_alike(table, as_lists(row)), len(found))
            for number in sorted({*range(0, len(found), max(1, len(found) // 8)), len(found) - 1}):
                self.same(package.nth_alike(table, row, number), found[number], (table, row, number))
                self.same(package.number_alike(table, row, found[number]), number, (table, row, number))
                self.same(package.number_alike(table, as_lists(row), as_lists(found[number])), number)
            for number in (len(found), len(found) + 1, -len(found)) + NO_NUMBERS:
                self.refused(NoNumber, package.nth_alike, table, row, number, number=number)
                self.refused(NoNumber, package.nth_alike, as_lists(table), list(row), number, number=number)

    def test_none_of_these(self):
        looked = 0
        for table, row in loose_rows():
            others = sorted(set(itertools.permutations(row)))
            for other in others[::max(1, len(others) // 15)] + [row[1:], row + row[:1], row[:1], ()]:
                found = group(table, row)
                wanted = found.index(other) if other in found else None
                looked += wanted is None
                self.same(package.number_alike(table, row, other), wanted, (table, row, other))
        self.assertGreater(looked, 700)

    def test_alike_rows(self):
        for table, row in loose_rows():
            self.same(package.alike_rows(table, row), group(table, row), (table, row))
            self.same(package.alike_rows(as_lists(table), as_lists(row)), group(table, row))

    def test_how_many_at(self):
        for table, row in loose_rows():
            found = group(table, row)
            for deed in sorted(set(row)) + [("put", table[0][0], 9), ("get", table[0][-1], "zz")]:
                for place in (*range(len(row)), len(row), len(row) + 1, -1, -len(row), BOUND, -10 ** 400):
                    wanted = sum(other[place] == deed for other in found) if 0 <= place < len(row) else 0
                    self.same(package.how_many_at(table, row, deed, place), wanted, (table, row, deed, place))
                for place in range(len(row)):
                    wanted = sum(other[place] == deed for other in found)
                    self.same(package.how_many_at(table, as_lists(row), list(deed), place), wanted)

    def test_many(self):
        free = (SIX, (), ())
        gets = tuple(("get", SIX[place % 6], "stuvwxyz"[place]) for place in range(8))
        self.same(package.how_many_alike(free, gets), 40320)
        self.same(package.nth_alike(free, gets, 40319), package.plain_row(free, gets)[::-1])
        self.same(package.number_alike(free, gets, package.plain_row(free, gets)[::-1]), 40319)
        self.same(package.nth_alike(free, gets, 5040), tuple(sorted(gets)[1:2] + sorted(gets)[:1] + sorted(gets)[2:]))
        self.same(package.how_many_at(free, gets, gets[2], 7), 5040)
        self.same(len(package.plain_begun(free, gets)), 256)
        puts = (("put", "a", 7),) * 8
        self.same(package.how_many_alike(free, puts), 1)
        self.same(package.how_many_at(free, puts, puts[0], 3), 1)
        self.same(package.alike_rows(free, puts[:5]), [puts[:5]])
        self.same(package.plain_begun(free, puts), [puts[:many] for many in range(9)])
        mixed = (("put", "p", 1), ("put", "q", 2)) * 4
        self.same(package.how_many_alike(APART, mixed), 70)


class Forms(Case):
    def test_forms(self):
        for table, deeds in deed_sets():
            found = all_forms(table, deeds)
            self.same(package.forms(table, deeds), found, (table, deeds))
            self.same(package.forms(as_lists(table), as_lists(deeds)), found)
            self.same(package.how_many_forms(table, deeds), len(found), (table, deeds))
            self.same(package.how_many_forms(table, in_turns(deeds, True)), len(found))

    def test_guarantee_of_ways_that_never_lead_back(self):
        for table, deeds in deed_sets():
            tied = [pair for pair in itertools.combinations(deeds, 2) if not passes(table, *pair)]
            ways = set()
            for row in itertools.permutations(deeds):
                ways.add(tuple(row.index(one) < row.index(other) for one, other in tied))
            self.same(package.how_many_forms(table, deeds), len(ways), (table, deeds))

    def test_is_form(self):
        counts = {True: 0, False: 0}
        for table, deeds in deed_sets():
            found = all_forms(table, deeds)
            for row in list(itertools.permutations(deeds))[::5] + found[::3]:
                counts[row in found] += 1
                self.same(package.is_form(table, deeds, row), row in found, (table, deeds, row))
                self.same(package.is_form(table, as_lists(deeds), row), row in found)
                self.same(package.is_form(table, deeds, list(row)), False)
                for other in (row[1:], row + row[:1], row + (("get", table[0][0], "zz"),), row[:-1] * 2):
                    self.same(package.is_form(table, deeds, other), deeds == other == (), (table, deeds, other))
        self.assertGreater(min(counts.values()), 300)

    def test_what_is_no_form(self):
        deeds = WIDE[:2]
        self.same(package.is_form(APART, deeds, deeds), True)
        self.same(package.is_form(APART, deeds, deeds[::-1]), True)
        for thing in ((("put", "p", True), ("put", "p", 2)), (deeds[0], ["put", "p", 2]), (deeds[0], deeds[0]), (),
                      None, (deeds[0], ("put", "q", 2)), (deeds[0], ("put", "p", 2, 2)), deeds * 2, deeds * 30000, "ab",
                      2, (1, 2), (deeds[0], ("get", "p", "a")), (deeds,), (deeds[0], None),
                      (deeds[0], ("put", "x", 2))):
            self.same(package.is_form(APART, deeds, thing), False, thing)
        self.same(package.is_form(APART, (), ()), True)

    def test_seven_deeds(self):
        free, apart = (SIX, (), ()), (SIX, (), tuple(itertools.combinations(SIX, 2)))
        puts = tuple(("put", "a", number) for number in range(7))
        self.same(package.how_many_forms(free, puts), 5040)
        gets = tuple(("get", SIX[place % 6], "stuvwxy"[place]) for place in range(7))
        self.same(package.how_many_forms(free, tuple(sorted(gets))), 1)
        self.same(package.forms(free, tuple(sorted(gets))), [tuple(sorted(gets))])
        mixed = tuple(sorted([("put", "a", 1), ("put", "b", 2), ("get", "a", "s"), ("get", "b", "t"), ("get", "c", "u"),
                              ("put", "c", 3), ("put", "a", 4)]))
        ways = set()
        tied = [pair for pair in itertools.combinations(mixed, 2) if not passes(apart, *pair)]
        for row in itertools.permutations(mixed):
            ways.add(tuple(row.index(one) < row.index(other) for one, other in tied))
        self.same(package.how_many_forms(apart, mixed), len(ways))
        # A round of four: all ways but the two that lead round.
        table = (("p", "q", "r", "s"), (), (("p", "r"), ("q", "s")))
        ring = (("put", "p", 1), ("put", "q", 2), ("put", "r", 3), ("put", "s", 4))
        self.same(package.how_many_forms(table, ring), 14)


class Beginnings(Case):
    def test_plain_joined(self):
        draw = random.Random(122)
        for table, row in loose_rows():
            cut = draw.randrange(len(row) + 1)
            one, other = row[:cut], row[cut:]
            self.same(package.plain_joined(table, one, other), group(table, row)[0], (table, one, other))
            self.same(package.plain_joined(as_lists(table), as_lists(one), in_turns(other, True)), group(table, row)[0])
            other = tuple(("get", table[0][0], spot) for spot in spots(row)[-1:])
            if other:
                self.refused(Unfit, package.plain_joined, table, row, other)
                self.refused(Unfit, package.plain_joined, table, as_lists(other), as_lists(row))

    def test_begins_with(self):
        counts = {True: 0, False: 0}
        draw = random.Random(123)
        for table, row in loose_rows():
            heads = {draw.choice(group(table, row))[:many] for many in range(len(row) + 1)}
            heads |= {tuple(draw.sample(row, many)) for many in range(len(row) + 1) for _ in range(2)}
            heads |= {row + row[:1], (("put", table[0][0], 9),), row[:1] * 2}
            for head in sorted(heads):
                rests = {group(table, other[len(head):])[0] for other in group(table, row) if other[:len(head)] == head}
                self.assertLess(len(rests), 2)
                counts[rests != set()] += 1
                self.same(package.begins_with(table, row, head), rests != set(), (table, row, head))
                self.same(package.begins_with(table, as_lists(row), as_lists(head)), rests != set())
                wanted = min(rests, default=None)
                self.same(package.rest_behind(table, row, head), wanted, (table, row, head))
                self.same(package.rest_behind(table, as_lists(row), as_lists(head)), wanted)
        self.assertGreater(min(counts.values()), 500)

    def test_plain_begun(self):
        for table, row in loose_rows():
            self.same(package.plain_begun(table, row), begun(table, row), (table, row))
            self.same(package.plain_begun(as_lists(table), as_lists(row)), begun(table, row))

    def test_common_beginning(self):
        draw = random.Random(124)
        lengths = set()
        for table, row in loose_rows():
            others = [draw.choice(group(table, row)), tuple(draw.sample(row, len(row))), row[1:], row[:-1]]
            others.append(tuple(draw.sample(row, len(row)))[:3])
            for other in others:
                both = [head for head in begun(table, row) if head in begun(table, other)]
                longest = [head for head in both if len(head) == max(map(len, both))]
                self.assertEqual(len(longest), 1)
                lengths.add((len(longest[0]), len(row)))
                self.same(package.common_beginning(table, row, other), longest[0], (table, row, other))
                self.same(package.common_beginning(table, as_lists(other), as_lists(row)), longest[0])
        self.assertTrue({(many, 6) for many in range(7)} <= lengths)

    def test_common_beginning_of_other_spots(self):
        one, other = (("get", "p", "s"), ("put", "q", 1)), (("get", "p", "t"), ("put", "q", 1))
        self.same(package.common_beginning(APART, one, other), (("put", "q", 1),))
        self.same(package.common_beginning(APART, one[:1], other[:1]), ())
        self.same(package.common_beginning(APART, one, one[::-1]), one)


class Edges(Case):
    def test_the_empty_row(self):
        for none in ((), []):
            self.same(package.plain_row(TABLE, none), ())
            self.same(package.is_plain(TABLE, none), True)
            self.same(package.how_many_alike(TABLE, none), 1)
            self.same(package.nth_alike(TABLE, none, 0), ())
            self.refused(NoNumber, package.nth_alike, TABLE, none, 1, number=1)
            self.same(package.number_alike(TABLE, none, ()), 0)
            self.same(package.number_alike(TABLE, none, ROW), None)
            self.same(package.number_alike(TABLE, ROW, none), None)
            self.same(package.alike_rows(TABLE, none), [()])
            self.same(package.how_many_at(TABLE, none, ROW[0], 0), 0)
            self.same(package.how_many_forms(TABLE, none), 1)
            self.same(package.forms(TABLE, none), [()])
            self.same(package.is_form(TABLE, none, ()), True)
            self.same(package.is_form(TABLE, none, ROW), False)
            self.same(package.plain_joined(TABLE, none, ()), ())
            self.same(package.plain_joined(TABLE, none, ROW), package.plain_row(TABLE, ROW))
            self.same(package.begins_with(TABLE, none, ()), True)
            self.same(package.begins_with(TABLE, none, ROW[:1]), False)
            self.same(package.rest_behind(TABLE, none, ()), ())
            self.same(package.rest_behind(TABLE, ROW, none), package.plain_row(TABLE, ROW))
            self.same(package.plain_begun(TABLE, none), [()])
            self.same(package.common_beginning(TABLE, none, ROW), ())

    def test_a_row_of_one(self):
        row = (("put", "q", 0),)
        self.same(package.alike_rows(APART, row), [row])
        self.same(package.how_many_at(APART, row, row[0], 0), 1)
        self.same(package.how_many_at(APART, row, row[0], 1), 0)
        self.same(package.plain_begun(APART, row), [(), row])
        self.same(package.rest_behind(APART, row, row), ())

    def test_equal_deeds(self):
        row = (("put", "q", 3), ("put", "p", 1), ("put", "q", 3), ("get", "p", "s"))
        self.same(package.plain_row(APART, row), (row[1], row[3], row[0], row[2]))
        self.same(package.how_many_alike(APART, row), 6)
        self.same(package.alike_rows(APART, row), group(APART, row))
        self.same(package.how_many_at(APART, row, row[0], 0), 3)
        self.same(package.begins_with(APART, row, (row[0], row[0])), True)
        self.same(package.begins_with(APART, row, (row[0],) * 3), False)
        self.same(package.rest_behind(APART, row, row[:1]), (row[1], row[3], row[2]))

    def test_all_sets_of_places_that_can_stand_first(self):
        for table, row in loose_rows():
            if len(set(row)) == len(row):
                firsts = [some for some in subsets(range(len(row))) if all(
                    passes(table, row[x], row[y]) or x in some for y in some for x in range(y) if x != y)]
                self.same(len(package.plain_begun(table, row)), len(firsts), (table, row))
