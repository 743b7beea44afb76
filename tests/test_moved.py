"""Point 11: DEEDS that pass, against all exchanges one behind another and all STEPS, and the errors."""

import itertools
import random

from aliasrows import moved as package
from aliasrows.errors import CanNot, NoNumber, Unfit
from tests.helper import BOUND, Case, alike, as_lists, do_the_same, drawn_row, in_turns, loose_row, loose_rows
from tests.helper import outcomes, passes, some_rows, some_tables, subsets, turned

TABLE = (("a", "b", "c", "d"), (("a", "b"),), (("b", "c"),))
ROW = (("put", "a", 1), ("get", "c", "x"), ("put", "d", 2), ("get", "b", "y"))
APART = (("p", "q"), (), (("p", "q"),))
NO_PLACES = (-1, -4, -5, BOUND, -BOUND, 10 ** 400, -10 ** 400)


def orders_of(row):
    """All ROWS of the same DEEDS."""
    return sorted(set(itertools.permutations(row)))


def held(table, row):
    """The pairs of places held behind one another: all rows of places between them tried."""
    found = []
    for lesser, greater in itertools.combinations(range(len(row)), 2):
        chains = [(lesser, *between, greater) for between in subsets(range(lesser + 1, greater))]
        if any(all(not passes(table, row[x], row[y]) for x, y in zip(chain, chain[1:])) for chain in chains):
            found.append((lesser, greater))
    return tuple(found)


def all_steps(places):
    """All ways to lay the places into sets one behind another."""
    if places == ():
        yield ()
    for many in range(1, len(places) + 1):
        for first in itertools.combinations(places, many):
            for rest in all_steps(tuple(place for place in places if place not in first)):
                yield (first, *rest)


def are_steps(table, row, steps):
    """Whether no two places whose DEEDS do not pass stand in one set, or the wrong way about."""
    at = {place: number for number, step in enumerate(steps) for place in step}
    return all(at[x] < at[y] or passes(table, row[x], row[y]) for x, y in itertools.combinations(range(len(row)), 2))


class Exchanges(Case):
    def test_can_pass(self):
        counts = {True: 0, False: 0}
        for table in some_tables():
            deeds = [("put", name, number) for name in table[0] for number in (0, 1, -BOUND)]
            deeds += [("get", name, spot) for name in table[0] for spot in ("s", "a")]
            pairs = list(itertools.product(deeds, repeat=2))
            for deed, second in pairs[::max(1, len(pairs) // 150)]:
                wanted = passes(table, deed, second)
                counts[wanted] += 1
                self.same(package.can_pass(table, deed, second), wanted, (table, deed, second))
                self.same(package.can_pass(table, second, list(deed)), wanted)
        self.assertGreater(min(counts.values()), 1000)

    def test_can_pass_by_kinds(self):
        one, other = ("put", "a", 1), ("get", "a", "s")
        self.same(package.can_pass(TABLE, one, one), True)
        self.same(package.can_pass(TABLE, other, other), True)
        self.same(package.can_pass(TABLE, one, ("put", "b", 1)), True)
        self.same(package.can_pass(TABLE, one, ("put", "b", 2)), False)
        self.same(package.can_pass(TABLE, one, ("put", "c", 2)), True)
        self.same(package.can_pass(TABLE, one, ("put", "d", 2)), False)
        self.same(package.can_pass(TABLE, one, other), False)
        self.same(package.can_pass(TABLE, other, one), False)
        self.same(package.can_pass(TABLE, other, ("put", "c", 1)), True)
        self.same(package.can_pass(TABLE, ("put", "a", 0), ("put", "a", -0)), True)

    def test_exchanged(self):
        for table, row in loose_rows() + some_rows():
            free = tuple(place for place in range(len(row) - 1) if passes(table, row[place], row[place + 1]))
            self.same(package.passing_places(table, row), free, (table, row))
            self.same(package.passing_places(table, as_lists(row)), free)
            for place in range(len(row)):
                if place in free:
                    self.same(package.exchanged(table, row, place), turned(row, place), (table, row, place))
                    self.same(package.exchanged(table, in_turns(row, True), place), turned(row, place))
                else:
                    self.refused(CanNot, package.exchanged, table, row, place)
            for place in (len(row), len(row) + 1) + NO_PLACES:
                self.refused(NoNumber, package.exchanged, table, row, place, number=place)

    def test_keeps(self):
        counts = {True: 0, False: 0}
        for table, row in loose_rows() + some_rows():
            for place in range(len(row) - 1):
                same = do_the_same(table, row, turned(row, place))
                counts[same] += 1
                self.same(package.keeps(table, row, place), same, (table, row, place))
                self.same(package.keeps(as_lists(table), as_lists(row), place), same)
            if row:
                self.refused(CanNot, package.keeps, table, row, len(row) - 1)
            for place in (len(row), len(row) + 1) + NO_PLACES:
                self.refused(NoNumber, package.keeps, table, row, place, number=place)
        self.assertGreater(min(counts.values()), 300)

    def test_passing_keeps_and_not_the_other_way_about(self):
        found = [(passes(table, *row[place:place + 2]), package.keeps(table, row, place))
                 for table, row in loose_rows() for place in range(len(row) - 1)]
        self.assertNotIn((True, False), found)
        self.assertIn((False, True), found)


class Alike(Case):
    def test_all_orders(self):
        counts = {True: 0, False: 0}
        for table, row in loose_rows():
            others = orders_of(row)
            for other in others[::max(1, len(others) // 24)] + sorted(alike(table, row))[::7]:
                wanted = alike(table, row).get(other)
                counts[wanted is not None] += 1
                self.same(package.are_alike(table, row, other), wanted is not None, (table, row, other))
                self.same(package.exchanges_between(table, row, other), wanted, (table, row, other))
                self.same(package.exchanges_between(table, other, as_lists(row)), wanted)
        self.assertGreater(min(counts.values()), 700)

    def test_other_deeds(self):
        draw = random.Random(12)
        for table, row in loose_rows():
            for other in (row[1:], row[:-1], row + (("put", table[0][0], 7),), drawn_row(draw, table, len(row))):
                same = sorted(other) == sorted(row) and other in alike(table, row)
                self.same(package.are_alike(table, row, other), same, (table, row, other))
                if not same:
                    self.same(package.exchanges_between(table, row, other), None)
                    self.same(package.way_between(table, row, other), None)
                    self.same(package.is_way_between(table, row, other, (row, other)), False)

    def test_equal_deeds_as_often(self):
        one, other = ("put", "p", 1), ("put", "q", 2)
        self.same(package.are_alike(APART, (one, one, other), (one, other, other)), False)
        self.same(package.are_alike(APART, (one, one, other), (one, other)), False)
        self.same(package.exchanges_between(APART, (one, one, other), (other, one, one)), 2)
        self.same(package.exchanges_between(APART, (one, other, one), (one, one, other)), 1)

    def check_way(self, table, row, other, way, fewest):
        self.assertIs(type(way), tuple)
        self.same(len(way) - 1, fewest, (table, row, other))
        self.same((way[0], way[-1]), (row, other))
        for ahead, behind in zip(way, way[1:]):
            self.assertIn(behind, [turned(ahead, place) for place in range(len(row) - 1)
                                   if passes(table, ahead[place], ahead[place + 1])])

    def test_way_between(self):
        for table, row in loose_rows():
            far = alike(table, row)
            for other in sorted(far)[::max(1, len(far) // 9)] + [max(far, key=far.get)]:
                way = package.way_between(table, row, other)
                self.check_way(table, row, other, way, far[other])
                self.same(package.is_way_between(table, row, other, way), True, (table, row, other))
                self.same(package.is_way_between(table, as_lists(row), as_lists(other), way), True)
            self.same(package.way_between(table, row, row), (row,))

    def test_is_way_between(self):
        draw = random.Random(13)
        counts = {True: 0, False: 0}
        for table, row in loose_rows():
            for _ in range(12 if len(row) > 1 else 1):
                way = [row]
                for _ in range(draw.randrange(5) if len(row) > 1 else 0):
                    places = range(len(row) - 1)
                    free = [place for place in places if passes(table, *way[-1][place:place + 2])]
                    way.append(turned(way[-1], draw.choice(free if free and draw.random() < 0.9 else places)))
                steps = all(x != y and y in alike(table, x) and alike(table, x)[y] == 1 for x, y in zip(way, way[1:]))
                wanted = steps and alike(table, row)[way[-1]] == len(way) - 1
                counts[wanted] += 1
                self.same(package.is_way_between(table, row, way[-1], tuple(way)), wanted, (table, way))
                self.same(package.is_way_between(table, row, way[-1], way), False)
        self.assertGreater(min(counts.values()), 300)

    def test_ways_from_and_to_others(self):
        counts = {True: 0, False: 0}
        for table, row in loose_rows():
            group = sorted(alike(table, row))[:4]
            for one, other in itertools.product(group, repeat=2):
                way = package.way_between(table, one, other)
                for start, end in itertools.product(group, repeat=2):
                    counts[(start, end) == (one, other)] += 1
                    self.same(package.is_way_between(table, start, end, way), (start, end) == (one, other), (table, way))
        self.assertGreater(min(counts.values()), 500)

    def test_no_way(self):
        far = turned(ROW, 0)
        self.same(package.is_way_between(TABLE, ROW, far, (ROW, far)), True)
        for thing in ((), (ROW,), (far,), (far, ROW), (ROW, far, far), (ROW, ROW, far), (ROW, far, ROW, far),
                      [ROW, far], (ROW, list(far)), (list(ROW), far), (ROW, as_lists(far)), (ROW, far[:3]),
                      (ROW[:3], far), None, (ROW, turned(ROW, 1)), (ROW, (("put", "a", True), *ROW[1:])), ROW,
                      (ROW, None), "a", 1, ((), ())):
            self.same(package.is_way_between(TABLE, ROW, far, thing), False, thing)
        # True is no number, though it equals 1.
        bent = tuple(("put", "a", True) if deed == ("put", "a", 1) else deed for deed in far)
        self.same(package.is_way_between(TABLE, ROW, far, (ROW, bent)), False)
        self.same(package.is_way_between(TABLE, ROW, ROW, (ROW,)), True)
        self.same(package.is_way_between(TABLE, ROW, ROW, (ROW, far, ROW)), False)
        self.same(package.is_way_between(TABLE, (), (), ((),)), True)
        self.same(package.is_way_between(TABLE, (), (), ()), False)
        self.same(package.is_way_between(TABLE, ROW, ROW[::-1], (ROW, ROW[::-1])), False)

    def test_very_long_things(self):
        gets = tuple(("get", "p", "".join(signs)) for signs in itertools.product("abcdefghij", repeat=4))
        wide = (("put", "p", 1), ("put", "q", 2), ("put", "q", 3))
        end = (wide[1], wide[2], wide[0])
        self.same(package.is_way_between(APART, wide, end, (wide, turned(wide, 0), end)), True)
        for middle in (gets, wide * 5000, (wide[0],) * 20000, wide[:2]):
            self.same(package.is_way_between(APART, wide, end, (wide, middle, end)), False)
        self.same(package.is_way_between(APART, wide, end, (wide, end) * 10000), False)


class Held(Case):
    def test_held_pairs(self):
        for table, row in loose_rows() + some_rows():
            self.same(package.held_pairs(table, row), held(table, row), (table, row))
            self.same(package.held_pairs(table, as_lists(row)), held(table, row))

    def test_guarantee_of_held_pairs(self):
        looked = 0
        for table, row in loose_rows():
            if len(set(row)) < len(row):
                continue
            ahead = tuple((x, y) for x, y in itertools.permutations(range(len(row)), 2)
                          if all(other.index(row[x]) < other.index(row[y]) for other in alike(table, row)))
            self.same(package.held_pairs(table, row), ahead, (table, row))
            looked += 1
        self.assertGreater(looked, 150)

    def test_longest_held(self):
        for table, row in loose_rows() + some_rows():
            pairs = held(table, row)
            chains = [chain for chain in subsets(range(len(row)))
                      if all(pair in pairs for pair in zip(chain, chain[1:]))]
            wanted = min(chains, key=lambda chain: (-len(chain), chain))
            self.same(package.longest_held(table, row), wanted, (table, row))
            self.same(package.fewest_steps(table, row), len(wanted), (table, row))

    def test_deed_places(self):
        for table, row in loose_rows():
            for deed in sorted(set(row)):
                wanted = {place for other in alike(table, row) for place, one in enumerate(other) if one == deed}
                self.same(package.deed_places(table, row, deed), tuple(sorted(wanted)), (table, row, deed))
                self.same(package.deed_places(table, list(row), list(deed)), tuple(sorted(wanted)))

    def test_no_such_deed(self):
        for deed in (("get", "a", "z"), ("put", "a", 2), ("put", "b", 1), ("get", "c", "y"), ("put", "c", 2)):
            self.refused(Unfit, package.deed_places, TABLE, ROW, deed)
            self.refused(Unfit, package.deed_places, as_lists(TABLE), as_lists(ROW), list(deed))
            self.refused(Unfit, package.deed_places, TABLE, (), deed)

    def test_places_between_which_equal_deeds_are_not(self):
        row = (("put", "p", 1), ("get", "p", "s"), ("put", "p", 1), ("get", "q", "t"))
        self.same(package.deed_places(APART, row, row[0]), (0, 1, 2, 3))
        self.same(package.deed_places(APART, row[:3], row[0]), (0, 2))
        self.same(package.deed_places(APART, row[:3], row[1]), (1,))


class Steps(Case):
    def test_is_steps(self):
        counts = {True: 0, False: 0}
        for table, row in loose_rows():
            every = list(all_steps(tuple(range(len(row)))))
            for steps in every[::max(1, len(every) // 60)]:
                wanted = are_steps(table, row, steps)
                counts[wanted] += 1
                self.same(package.is_steps(table, row, steps), wanted, (table, row, steps))
                self.same(package.is_steps(table, as_lists(row), steps), wanted)
                for other in (steps + ((),), steps + (steps or ((0,),))[-1:], steps[1:] or ((len(row),),), list(steps),
                              ((), *steps), tuple(step[::-1] for step in steps if len(step) > 1) or None):
                    self.same(package.is_steps(table, row, other), False, (table, row, other))
        self.assertGreater(min(counts.values()), 2000)

    def test_fewest_first_and_last(self):
        for table, row in loose_rows():
            if len(row) > 5:
                continue
            fit = [{place: number for number, step in enumerate(steps) for place in step}
                   for steps in all_steps(tuple(range(len(row)))) if are_steps(table, row, steps)]
            many = [len(set(at.values())) for at in fit]
            self.same(package.fewest_steps(table, row), min(many), (table, row))
            first = {place: min(at[place] for at in fit) for place in range(len(row))}
            last = {place: max(at[place] for at, steps in zip(fit, many) if steps == min(many)) for place in first}
            for call, at in ((package.first_steps, first), (package.last_steps, last)):
                wanted = tuple(tuple(place for place in at if at[place] == step) for step in range(min(many)))
                self.same(call(table, row), wanted, (table, row))
                self.same(call(table, as_lists(row)), wanted)

    def test_rows_of_eight(self):
        for table, row in some_rows():
            for call in (package.first_steps, package.last_steps):
                steps = call(table, row)
                self.assertTrue(are_steps(table, row, steps), (table, row))
                self.same(package.is_steps(table, row, steps), True)
                self.same(len(steps), len(package.longest_held(table, row)))

    def test_odd_numbers(self):
        self.same(package.is_steps(TABLE, ROW, ((0, 1), (2,), (3,))), True)
        for thing in (((False, True), (2,), (3,)), ((0, True), (2,), (3,)), ((0, 1), (2,), (3,), (4,)), ((0, 1), (2,)),
                      ((0, 1), (2,), (-1,)), ((1, 0), (2,), (3,)), ((0, 0, 1), (2,), (3,)), ((0, 1), 2, 3),
                      (0, 1, 2, 3), ((0, 1), (2, 3)), ((0, 1), (3,), (2,)), ([0, 1], (2,), (3,)),
                      ((0, 1), ("2",), (3,)), "0123", ((0, 1), (2,), (10 ** 400,)), ((0, 1), (None,), (3,)),
                      (((0, 1),), (2,), (3,)), ((0, 1), (2,), ())):
            self.same(package.is_steps(TABLE, ROW, thing), False, thing)


class Guarantees(Case):
    def test_alike_by_the_order_of_deeds_that_do_not_pass(self):
        def standing(row):
            """The DEEDS, each with how many equal ones stand ahead of it."""
            return [(deed, row[:place].count(deed)) for place, deed in enumerate(row)]

        for table, row in loose_rows():
            for other in orders_of(row)[::max(1, len(orders_of(row)) // 20)]:
                one, second = standing(row), standing(other)
                same = all(second.index(x) < second.index(y) for x, y in itertools.combinations(one, 2)
                           if not passes(table, x[0], y[0]))
                self.same(package.are_alike(table, row, other), same, (table, row, other))
                if same:
                    many = sum(second.index(x) > second.index(y) for x, y in itertools.combinations(one, 2))
                    self.same(package.exchanges_between(table, row, other), many, (table, row, other))

    def test_alike_rows_do_the_same(self):
        for table, row in loose_rows():
            for other in sorted(alike(table, row))[::max(1, len(alike(table, row)) // 5)]:
                self.assertEqual(outcomes(table, row), outcomes(table, other), (table, row, other))

    def test_rows_that_do_the_same_and_are_not_alike(self):
        over = (("put", "a", 1), ("put", "d", 2), ("put", "a", 3), ("put", "d", 3))
        self.assertEqual(outcomes(TABLE, over), outcomes(TABLE, turned(over, 0)))
        self.same(package.are_alike(TABLE, over, turned(over, 0)), False)


class Edges(Case):
    def test_the_empty_row(self):
        for none in ((), []):
            self.same(package.passing_places(TABLE, none), ())
            self.same(package.are_alike(TABLE, none, ()), True)
            self.same(package.are_alike(TABLE, none, ROW), False)
            self.same(package.exchanges_between(TABLE, none, ()), 0)
            self.same(package.way_between(TABLE, none, ()), ((),))
            self.same(package.held_pairs(TABLE, none), ())
            self.same(package.longest_held(TABLE, none), ())
            self.same(package.is_steps(TABLE, none, ()), True)
            self.same(package.is_steps(TABLE, none, ((),)), False)
            self.same(package.is_steps(TABLE, none, ((0,),)), False)
            self.same(package.fewest_steps(TABLE, none), 0)
            self.same(package.first_steps(TABLE, none), ())
            self.same(package.last_steps(TABLE, none), ())
            for call in (package.exchanged, package.keeps):
                self.refused(NoNumber, call, TABLE, none, 0, number=0)

    def test_a_row_of_one(self):
        row = ROW[:1]
        for call in (package.exchanged, package.keeps):
            self.refused(CanNot, call, TABLE, row, 0)
            self.refused(NoNumber, call, TABLE, row, 1, number=1)
        self.same(package.passing_places(TABLE, row), ())
        self.same(package.deed_places(TABLE, row, row[0]), (0,))
        self.same(package.longest_held(TABLE, row), (0,))
        self.same(package.first_steps(TABLE, row), ((0,),))
        self.same(package.last_steps(TABLE, row), ((0,),))

    def test_the_last_place(self):
        self.refused(CanNot, package.exchanged, TABLE, ROW, 3)
        self.refused(CanNot, package.keeps, TABLE, ROW, 3)
        self.refused(CanNot, package.exchanged, TABLE, ROW, 1)
        self.same(package.keeps(TABLE, ROW, 1), False)

    def test_eight_deeds(self):
        names = tuple("abcdef")
        free = (names, (), ())
        gets = tuple(("get", names[place % 6], "stuvwxyz"[place]) for place in range(8))
        self.same(package.exchanges_between(free, gets, gets[::-1]), 28)
        self.same(len(package.way_between(free, gets, gets[::-1])), 29)
        self.same(package.deed_places(free, gets, gets[3]), tuple(range(8)))
        self.same(package.first_steps(free, gets), (tuple(range(8)),))
        puts = tuple(("put", names[place % 6], place) for place in range(8))
        self.same(package.longest_held(free, puts), tuple(range(8)))
        self.same(package.deed_places(free, puts, puts[3]), (3,))
        apart = (names, (), tuple(itertools.combinations(names, 2)))
        self.same(package.held_pairs(apart, puts), ((0, 6), (1, 7)))
        self.same(package.longest_held(apart, puts), (0, 6))
        self.same(package.last_steps(apart, puts), ((0, 1), (2, 3, 4, 5, 6, 7)))
        self.same(package.first_steps(apart, puts), ((0, 1, 2, 3, 4, 5), (6, 7)))
        self.same(package.exchanges_between(apart, puts, (*puts[2:], *puts[:2])), None)
        self.same(package.exchanges_between(apart, puts[:6], puts[:6][::-1]), 15)

    def test_drawn_rows_of_eight(self):
        draw = random.Random(14)
        for table in some_tables()[::3]:
            row = loose_row(draw, table, 8)
            other = list(row)
            for _ in range(30):
                place = draw.randrange(7)
                if passes(table, *other[place:place + 2]):
                    other[place:place + 2] = [other[place + 1], other[place]]
            way = package.way_between(table, row, tuple(other))
            self.same(package.is_way_between(table, row, other, way), True)
            self.same(package.exchanges_between(table, row, other), len(way) - 1)
            self.same(package.is_way_between(table, row, other, (*way, way[-1])), False)
