"""Point 9: ORDERS of puts, against the OUTCOMES of all of them by all SAMENESSES, and the errors."""

import functools
import itertools
import random

from aliasrows import orders as package
from aliasrows.errors import NoName, NoNumber, Unfit
from tests.helper import BOUND, Case, as_lists, foreign_cells, hung, in_turns, outcome_of, samenesses, some_tables
from tests.helper import subsets, word_of

TABLE = (("a", "b", "c", "d"), (("a", "b"),), (("b", "c"),))
NAMES = TABLE[0]
LOOSE = (("p", "q", "r"), (), ())
NONE = ("x", "", "aa", "A", "a ", "abcdefghi")
NO_NUMBERS = (-1, -BOUND, BOUND, 10 ** 400, -10 ** 400)


def row_of(table, order):
    return tuple(("put", name, table[0].index(name)) for name in order)


@functools.lru_cache(maxsize=None)
def done(table, order):
    """What the ORDER does: its OUTCOMES by all SAMENESSES."""
    return tuple(outcome_of(row_of(table, order), cells) for cells in samenesses(table))


@functools.lru_cache(maxsize=None)
def pointing(table, order):
    """The POINTING, read off its definition."""
    lasts = [name for place, name in enumerate(order)
             if not any(word_of(table, name, other) == "one" for other in order[place + 1:])]
    arrows = [pair for pair in itertools.combinations(lasts, 2) if word_of(table, *pair) != "apart"]
    return tuple(sorted(lasts)), tuple(sorted(arrows))


@functools.lru_cache(maxsize=None)
def orders(some):
    return list(itertools.permutations(some))


@functools.lru_cache(maxsize=None)
def all_orders(table):
    return [order for some in subsets(table[0]) for order in orders(some)]


def small_tables():
    """Those of at most four names."""
    return [table for table in some_tables() if len(table[0]) <= 4]


def great_tables():
    """Some of those of five and six names."""
    return [table for table in some_tables() if len(table[0]) > 4][::2]


def some_sets():
    """TABLES and sets of names: all of small TABLES, some of great ones."""
    for table in small_tables():
        for some in subsets(table[0]):
            yield table, some
    for table in great_tables():
        for some in (table[0], table[0][1:], table[0][::2]):
            yield table, some


def exchanged(order, place):
    return (*order[:place], order[place + 1], order[place], *order[place + 2:])


def far_from(table, one):
    """For each ORDER that exchanges of neighbours lead to, all doing the same, how few of them do."""
    found, edge = {one: 0}, [one]
    while edge:
        order = edge.pop(0)
        for following in (exchanged(order, place) for place in range(len(order) - 1)):
            if following not in found and done(table, following) == done(table, one):
                found[following] = found[order] + 1
                edge.append(following)
    return found


def is_turn_way(table, one, other, way):
    """Whether the tuple of ORDERS leads from one to other as it ought to."""
    if len(way) == 0 or way[0] != one or way[-1] != other:
        return False
    if any(done(table, order) != done(table, one) for order in way):
        return False
    return all(any(exchanged(order, place) == following for place in range(len(order) - 1))
               for order, following in zip(way, way[1:]))


class Pointings(Case):
    def test_is_order(self):
        for table in small_tables():
            for many in range(4):
                for thing in itertools.product((*table[0], "x"), repeat=many):
                    wanted = len(set(thing)) == many and set(thing) <= set(table[0])
                    self.same(package.is_order(table, thing), wanted, (table, thing))
                    self.same(package.is_order(table, list(thing)), False)

    def test_row_of_order(self):
        for table in small_tables() + great_tables():
            for order in all_orders(table)[::max(1, len(all_orders(table)) // 70)]:
                self.same(package.row_of_order(table, order), row_of(table, order), (table, order))

    def test_pointing_of(self):
        for table in small_tables() + great_tables():
            for order in all_orders(table)[::max(1, len(all_orders(table)) // 70)]:
                self.same(package.pointing_of(table, order), pointing(table, order), (table, order))

    def test_is_pointing(self):
        for table in [table for table in some_tables() if len(table[0]) <= 3]:
            wanted = {pointing(table, order) for order in all_orders(table)}
            names = table[0] + ("x",)
            pairs = list(itertools.product(names, repeat=2))
            arrows = [found for many in range(4) for found in itertools.combinations(pairs, many)]
            for lasts in (found for many in range(4) for found in itertools.permutations(names, many)):
                for found in arrows[::5] + [arrows for _, arrows in wanted]:
                    self.assertIs(package.is_pointing(table, (lasts, found)), (lasts, found) in wanted, (table, lasts))

    def test_is_pointing_of_four_names(self):
        for table in [table for table in small_tables() if len(table[0]) == 4]:
            wanted = {pointing(table, order) for order in all_orders(table)}
            for lasts in subsets(table[0]):
                pairs = [pair for pair in itertools.combinations(lasts, 2) if word_of(table, *pair) == "open"]
                for turned in itertools.product((1, -1), repeat=len(pairs)):
                    arrows = tuple(sorted(pair[::turn] for pair, turn in zip(pairs, turned)))
                    self.same(package.is_pointing(table, (lasts, arrows)), (lasts, arrows) in wanted, (lasts, arrows))
                    for other in (arrows[1:], arrows[::-1], arrows + arrows[-1:]):
                        self.same(package.is_pointing(table, (lasts, other)), (lasts, other) in wanted, (lasts, other))

    def test_is_pointing_of_six_names(self):
        for table in great_tables():
            draw = random.Random(31)
            for _ in range(20):
                order = tuple(draw.sample(table[0], len(table[0])))
                lasts, arrows = pointing(table, order)
                self.same(package.is_pointing(table, (lasts, arrows)), True)
                if arrows:
                    gone = draw.randrange(len(arrows))
                    self.same(package.is_pointing(table, (lasts, arrows[:gone] + arrows[gone + 1:])), False)

    def test_rounds(self):
        lasts = ("p", "q", "r")
        for arrows, wanted in ((("pq", "pr", "qr"), True), (("pq", "qr", "rp"), False), (("pr", "qp", "rq"), False),
                               (("pr", "qp", "qr"), True), (("pq", "pr", "qp", "qr"), False), (("pq", "pr"), False),
                               (("pp", "pq", "pr", "qr"), False), ((), False)):
            self.same(package.is_pointing(LOOSE, (lasts, tuple(map(tuple, arrows)))), wanted, arrows)

    def test_rounds_of_four(self):
        table = (("p", "q", "r", "s"), (), (("p", "r"), ("q", "s")))
        round_of_four = (("p", "q"), ("q", "r"), ("r", "s"), ("s", "p"))
        self.same(package.is_pointing(table, (table[0], round_of_four)), False)
        self.same(package.is_pointing(table, (table[0], (("p", "q"), ("p", "s"), ("q", "r"), ("r", "s")))), True)
        self.same(package.is_pointing(table, (table[0], (("p", "q"), ("p", "r"), ("p", "s"), ("q", "r"), ("r", "s")))),
                  False)


class DoTheSame(Case):
    def test_orders_same(self):
        for table in small_tables():
            found = all_orders(table)
            for one, other in itertools.product(found[::max(1, len(found) // 24)], found[::max(1, len(found) // 17)]):
                same = done(table, one) == done(table, other)
                self.same(package.orders_same(table, one, other), same, (table, one, other))
                got = package.parting_sameness(table, one, other)
                self.check_parting(table, one, other, got, same)

    def check_parting(self, table, one, other, got, same):
        if same:
            self.same(got, None, (table, one, other))
            return
        self.assertIn(got, samenesses(table))
        self.assertNotEqual(outcome_of(row_of(table, one), got), outcome_of(row_of(table, other), got))

    def test_orders_of_great_tables(self):
        draw = random.Random(32)
        for table in great_tables():
            for _ in range(12):
                one = tuple(draw.sample(table[0], draw.randrange(3, len(table[0]) + 1)))
                for other in [exchanged(one, place) for place in range(len(one) - 1)] + [one[1:], one[::-1]]:
                    same = done(table, one) == done(table, other)
                    self.same(package.orders_same(table, one, other), same, (table, one, other))
                    self.check_parting(table, one, other, package.parting_sameness(table, one, other), same)

    def test_guarantee(self):
        for table in small_tables():
            kept = {}
            for order in all_orders(table):
                kept.setdefault(done(table, order), set()).add(package.pointing_of(table, order))
            self.assertTrue(all(len(found) == 1 for found in kept.values()), table)
            self.assertEqual(len(kept), len(set().union(*kept.values())), table)

    def test_is_parting_sameness(self):
        for table in small_tables():
            found = all_orders(table)
            for one, other in zip(found[::3], found[1::3]):
                unlike = [cells for cells, left, right in
                          zip(samenesses(table), done(table, one), done(table, other)) if left != right]
                for cells in samenesses(table) + [*foreign_cells()[::7], None, "a", []]:
                    got = package.is_parting_sameness(table, one, other, cells)
                    self.same(got, cells in unlike, (table, one, other, cells))
                for cells in unlike[:2]:
                    self.same(package.is_parting_sameness(table, one, other, as_lists(cells)), False)
                    self.same(package.is_parting_sameness(table, one, one, cells), False)


class Numbered(Case):
    def test_all_pointings(self):
        for table, some in some_sets():
            found = sorted({pointing(table, order) for order in orders(some)})
            self.same(package.all_pointings(table, some), found, (table, some))
            self.same(package.how_many_pointings(table, some), len(found), (table, some))
            for number in {0, 1, len(found) // 2, len(found) - 1} - {-1}:
                if number < len(found):
                    self.same(package.nth_pointing(table, some, number), found[number])
                    self.same(package.number_of_pointing(table, some, found[number]), number)
                    self.same(package.number_of_pointing(table, list(some), as_lists(found[number])), number)
            for number in (len(found), *NO_NUMBERS):
                self.refused(NoNumber, package.nth_pointing, table, some, number, number=number)

    def test_guarantee_of_how_many(self):
        for table, some in some_sets():
            lumps = [tuple(name for name in lump if name in some) for lump in hung(table) if set(lump) & set(some)]
            choices = 1
            for lump in lumps:
                choices *= len(lump)
            pairs = [(one, other) for one, other in itertools.combinations(range(len(lumps)), 2)
                     if word_of(table, lumps[one][0], lumps[other][0]) == "open"]
            ranks = itertools.permutations(range(len(lumps)))
            turned = {tuple(rank[one] < rank[other] for one, other in pairs) for rank in ranks}
            self.same(package.how_many_pointings(table, some), choices * len(turned), (table, some))

    def test_none_of_these(self):
        for table in small_tables():
            every = sorted({pointing(table, order) for order in all_orders(table)})
            for some in subsets(table[0]):
                found = sorted({pointing(table, order) for order in orders(some)})
                for one in every[::max(1, len(every) // 20)]:
                    number = found.index(one) if one in found else None
                    self.same(package.number_of_pointing(table, some, one), number, (table, some, one))

    def test_least_order_and_how_many(self):
        for table in small_tables():
            every = sorted({pointing(table, order) for order in all_orders(table)})
            for some in subsets(table[0]):
                for one in every[::max(1, len(every) // 40)]:
                    self.check_orders(table, some, one)

    def test_least_order_of_great_tables(self):
        draw = random.Random(33)
        for table in great_tables():
            for some in (table[0], table[0][1:], table[0][::2]):
                for one in draw.sample(orders(some), 6) + [some, some[::-1], table[0][1:4]]:
                    self.check_orders(table, some, pointing(table, one))

    def check_orders(self, table, some, one):
        fit = [order for order in orders(some) if pointing(table, order) == one]
        self.same(package.least_order(table, some, one), min(fit, default=None), (table, some, one))
        self.same(package.how_many_orders(table, some, one), len(fit), (table, some, one))
        self.same(package.least_order(table, list(some), as_lists(one)), min(fit, default=None))
        self.same(package.how_many_orders(table, list(some), as_lists(one)), len(fit))


class Turns(Case):
    def check_turns(self, table, one, other, fewest):
        self.same(package.fewest_turns(table, one, other), fewest, (table, one, other))
        way = package.turn_way(table, one, other)
        if fewest is None:
            self.same(way, None)
            self.same(package.is_turn_way(table, one, other, (one, other)), False)
            return
        self.assertIs(type(way), tuple)
        self.assertTrue(all(type(order) is tuple for order in way))
        self.same(len(way) - 1, fewest, (table, one, other))
        self.assertTrue(is_turn_way(table, one, other, way), (table, one, other, way))
        self.same(package.is_turn_way(table, one, other, way), True)
        rank = {name: place for place, name in enumerate(other)}
        self.same(fewest, sum(rank[first] > rank[last] for first, last in itertools.combinations(one, 2)))

    def test_turns(self):
        for table in small_tables():
            for some in subsets(table[0]):
                for one in orders(some)[::5]:
                    far = far_from(table, one)
                    for other in orders(some)[::2]:
                        self.assertEqual(other in far, done(table, one) == done(table, other))
                        self.check_turns(table, one, other, far.get(other))

    def test_turns_of_great_tables(self):
        draw = random.Random(34)
        for table in great_tables():
            one = tuple(draw.sample(table[0], len(table[0])))
            far = far_from(table, one)
            for other in draw.sample(sorted(far), min(9, len(far))) + draw.sample(orders(table[0]), 3):
                self.check_turns(table, one, other, far.get(other))

    def test_many_turns(self):
        table = (tuple("abcdef"), (), tuple(itertools.combinations("abcdef", 2)))
        self.same(package.fewest_turns(table, table[0], table[0][::-1]), 15)
        self.same(package.free_places(table, table[0]), (0, 1, 2, 3, 4))
        self.same(package.how_many_orders(table, table[0], (table[0], ())), 720)
        self.same(package.all_pointings(table, table[0]), [(table[0], ())])

    def test_is_turn_way(self):
        draw = random.Random(35)
        held = 0
        for table in small_tables() + great_tables()[:5]:
            for _ in range(40):
                one = tuple(draw.sample(table[0], draw.randrange(len(table[0]) + 1)))
                way = [one]
                for _ in range(draw.randrange(6) if len(one) > 1 else 0):
                    way.append(exchanged(way[-1], draw.randrange(len(one) - 1)))
                other = draw.choice(way)
                for thing in (tuple(way), tuple(way[::2]), tuple(way[1:]), tuple(way[:way.index(other) + 1]),
                              tuple(way + way[::-1]), (one, one)):
                    wanted = is_turn_way(table, one, other, thing)
                    held += wanted
                    self.same(package.is_turn_way(table, one, other, thing), wanted, (table, one, other, thing))
        self.assertGreater(held, 700)

    def test_ways_of_whatever_length(self):
        one, other = ("a", "c", "b"), ("c", "a", "b")
        self.same(package.is_turn_way(TABLE, one, other, (one, other)), True)
        self.same(package.is_turn_way(TABLE, one, other, (one, other) * 5000), True)
        self.same(package.is_turn_way(TABLE, one, one, (one, other) * 5000), False)
        self.same(package.is_turn_way(TABLE, one, one, (one, other) * 5000 + (one,)), True)
        self.same(package.is_turn_way(TABLE, one, one, (one,)), True)
        self.same(package.is_turn_way(TABLE, one, one, (one, one)), False)
        self.same(package.is_turn_way(TABLE, one, one, ()), False)
        self.same(package.is_turn_way(TABLE, one, other, (one, ("b", "c", "a"), other)), False)
        self.same(package.is_turn_way(TABLE, one, other, (one, ("a", "b", "c"), one, other)), True)
        self.same(package.is_turn_way(TABLE, one, other, (one, ("a", "b", "d"), one, other)), False)
        self.same(package.is_turn_way(TABLE, one, other, [one, other]), False)
        self.same(package.is_turn_way(TABLE, one, other, (one, list(other))), False)
        self.same(package.is_turn_way(TABLE, list(one), in_turns(other, True), (one, other)), True)

    def test_free_places(self):
        for table in small_tables() + great_tables():
            every = all_orders(table)
            for order in every[::max(1, len(every) // 60)]:
                free = tuple(place for place in range(len(order) - 1)
                             if done(table, exchanged(order, place)) == done(table, order))
                self.same(package.free_places(table, order), free, (table, order))


class Edges(Case):
    def test_the_empty_order(self):
        for none in ((), []):
            self.same(package.row_of_order(TABLE, none), ())
            self.same(package.pointing_of(TABLE, none), ((), ()))
            self.same(package.orders_same(TABLE, none, ()), True)
            self.same(package.orders_same(TABLE, none, ("a",)), False)
            self.same(package.all_pointings(TABLE, none), [((), ())])
            self.same(package.how_many_pointings(TABLE, none), 1)
            self.same(package.nth_pointing(TABLE, none, 0), ((), ()))
            self.same(package.number_of_pointing(TABLE, none, ((), ())), 0)
            self.same(package.number_of_pointing(TABLE, none, (("a",), ())), None)
            self.same(package.least_order(TABLE, none, ((), ())), ())
            self.same(package.least_order(TABLE, ("a",), ((), ())), None)
            self.same(package.how_many_orders(TABLE, none, ((), ())), 1)
            self.same(package.how_many_orders(TABLE, none, (("a",), ())), 0)
            self.same(package.how_many_orders(TABLE, ("a",), ((), ())), 0)
            self.same(package.fewest_turns(TABLE, none, ()), 0)
            self.same(package.turn_way(TABLE, none, ()), ((),))
            self.same(package.is_turn_way(TABLE, none, (), ((),)), True)
            self.same(package.is_turn_way(TABLE, none, (), ((), ())), False)
            self.same(package.free_places(TABLE, none), ())
            self.same(package.free_places(TABLE, ["c"]), ())
        self.same(package.is_order(TABLE, ()), True)
        self.same(package.is_pointing(TABLE, ((), ())), True)

    def test_a_table_of_one_name(self):
        table = (("q",), (), ())
        self.same(package.row_of_order(table, ("q",)), (("put", "q", 0),))
        self.same(package.all_pointings(table, ("q",)), [(("q",), ())])
        self.same(package.parting_sameness(table, ("q",), ()), (("q",),))
        self.same(package.turn_way(table, ["q"], ["q"]), (("q",),))
        self.same(package.least_order(table, ["q"], (("q",), ())), ("q",))

    def test_six_names(self):
        table = (tuple("abcdef"), (), ())
        self.same(package.how_many_pointings(table, table[0]), 720)
        self.same(package.nth_pointing(table, table[0], 719), pointing(table, tuple("fedcba")))
        self.same(package.how_many_orders(table, table[0], pointing(table, tuple("fedcba"))), 1)
        self.same(package.least_order(table, table[0], pointing(table, tuple("fadcbe"))), tuple("fadcbe"))
        lump = (table[0], tuple(("a", name) for name in "bcdef"), ())
        self.same(package.how_many_orders(lump, table[0], (("c",), ())), 120)
        self.same(package.least_order(lump, table[0], (("c",), ())), tuple("abdefc"))
        self.same(package.fewest_turns(lump, tuple("edbafc"), tuple("abdefc")), 6)


class Errors(Case):
    def test_no_name(self):
        for name in NONE:
            for order in ((name,), ("a", name), ("d", name, "y"), (name, "y", "a")):
                for call in (package.row_of_order, package.pointing_of, package.free_places):
                    self.refused(NoName, call, TABLE, order, name=name)
                    self.refused(NoName, call, as_lists(TABLE), list(order), name=name)
                for call, more in ((package.orders_same, ()), (package.parting_sameness, ()),
                                   (package.is_parting_sameness, (None,)), (package.fewest_turns, ()),
                                   (package.turn_way, ()), (package.is_turn_way, (None,)),
                                   (package.is_turn_way, ((order, order),))):
                    self.refused(NoName, call, TABLE, order, ("a",), *more, name=name)
                    self.refused(NoName, call, TABLE, ("a",), order, *more, name=name)
                    self.refused(NoName, call, TABLE, order, ("z", "y"), *more, name=name)
                    self.refused(NoName, call, TABLE, ("d", "z"), list(order), *more, name="z")
                    self.refused(NoName, call, TABLE, order, order, *more, name=name)

    def test_no_name_of_some(self):
        for some, name in ((("x",), "x"), (("b", "c", "x"), "x"), (("", "x"), ""), (("a", "aa", "c", "z"), "aa")):
            for call, more in ((package.all_pointings, ()), (package.how_many_pointings, ()),
                               (package.nth_pointing, (0,)), (package.nth_pointing, (99,)),
                               (package.number_of_pointing, (((), ()),)), (package.least_order, ((("a",), ()),)),
                               (package.how_many_orders, ((("a",), ()),))):
                self.refused(NoName, call, TABLE, some, *more, name=name)
                self.refused(NoName, call, as_lists(TABLE), list(some), *as_lists(more), name=name)

    def test_no_number(self):
        for number in (8, 9, *NO_NUMBERS):
            self.refused(NoNumber, package.nth_pointing, TABLE, NAMES, number, number=number)
            self.refused(NoNumber, package.nth_pointing, as_lists(TABLE), list(NAMES), number, number=number)
        self.refused(NoNumber, package.nth_pointing, TABLE, (), 1, number=1)

    def test_unfit(self):
        for one, other in ((("a", "b"), ("b",)), (("a",), ("b",)), ((), ("a",)), (NAMES, NAMES[1:]), (NAMES, ())):
            for call, more in ((package.fewest_turns, ()), (package.turn_way, ()), (package.is_turn_way, (None,)),
                               (package.is_turn_way, ((one, other),))):
                self.refused(Unfit, call, TABLE, one, other, *more)
                self.refused(Unfit, call, as_lists(TABLE), list(other), list(one), *more)
