"""Point 13: FACTS, against all SAMENESSES and all sets of FACTS, and the errors."""

import functools
import itertools
import random

from aliasrows import more as package
from aliasrows.errors import NoSpot, Unfit
from tests.helper import BOUND, Case, all_facts, as_lists, can_be, drawn_row, hung, in_turns, number_of, outcome_of
from tests.helper import pairs_of, put_told, samenesses, some_row_pairs, some_tables, spots, subsets_by_size, with_facts
from tests.helper import word_of

TABLE = (("a", "b", "c", "d"), (("a", "b"),), (("b", "c"),))
ROW = (("put", "a", 1), ("get", "c", "x"), ("put", "d", 2), ("get", "b", "y"))
FREE = (("p", "q", "r", "z"), (), ())
RACE = (("put", "p", 1), ("put", "q", 2), ("put", "r", 3), ("get", "z", "w"))
NO_SPOTS = ("z", "a", "", "X", "xx", "abcdefghi")


@functools.lru_cache(maxsize=None)
def values(table, row, spot):
    """What is told at this spot by all SAMENESSES."""
    return {number_of(row, put_told(row, cells, spot)) for cells in samenesses(table)}


def is_sure(table, row, spot):
    return len(values(table, row, spot)) == 1


@functools.lru_cache(maxsize=None)
def some_gets():
    """Triples of a TABLE, a ROW of it and a spot: most of them not sure."""
    draw = random.Random(131)
    found = []
    for table in some_tables() + (FREE, (FREE[0], (("p", "r"),), ()), ((*FREE[0], "zz"), (), ())):
        for many in (0, 2, 3, 4, 5, 7):
            row = tuple(("put", draw.choice(table[0]), draw.choice((0, 1, 1, 2))) for _ in range(many))
            row = row[:5] + (("get", draw.choice(table[0]), "s"),) + row[5:]
            found.append((table, row, "s"))
        row = drawn_row(draw, table, 8)
        found += [(table, row, spot) for spot in spots(row)[:1]]
    return tuple(found)


@functools.lru_cache(maxsize=None)
def fact_sets(table):
    """Some sets of FACTS, of one, two, three and more, with those that cannot be."""
    draw, every = random.Random(132), all_facts(table)
    found = [()] + [(fact,) for fact in every]
    for many in (2, 2, 2, 3, 3, 4, 5):
        if many <= len(every):
            found += [tuple(sorted(draw.sample(every, many))) for _ in range(4)]
    return tuple(found)


def least(table, fit):
    """The least of the smallest sets of FACTS that are such that fit holds; None if there is none."""
    for facts in subsets_by_size(all_facts(table)):
        if can_be(table, facts) and fit(with_facts(table, facts)):
            return facts
    return None


def length(found):
    return None if found is None else len(found)


class Facts(Case):
    def test_is_fact(self):
        for table in some_tables():
            every = all_facts(table)
            for word in ("one", "apart", "open", "two", ""):
                for pair in itertools.product((*table[0], "x"), repeat=2):
                    self.same(package.is_fact(table, (word, *pair)), (word, *pair) in every, (table, word, pair))
                    self.same(package.is_fact(as_lists(table), [word, *pair]), False)

    def test_are_facts(self):
        counts = {True: 0, False: 0}
        for table in some_tables():
            for facts in fact_sets(table):
                wanted = can_be(table, facts)
                counts[wanted] += 1
                self.same(package.are_facts(table, facts), wanted, (table, facts))
                self.same(package.are_facts(as_lists(table), facts), wanted, (table, facts))
                self.same(package.are_facts(table, list(facts)), False)
                for other in (facts[::-1], facts + facts[-1:]):
                    if other != facts:
                        self.same(package.are_facts(table, other), False, (table, other))
        self.assertGreater(min(counts.values()), 500)

    def test_all_sets_of_facts(self):
        for table in [table for table in some_tables() if len(table[0]) <= 3]:
            for facts in subsets_by_size(all_facts(table)):
                self.same(package.are_facts(table, facts), can_be(table, facts), (table, facts))

    def test_told_more(self):
        for table in some_tables():
            for facts in fact_sets(table):
                if can_be(table, facts):
                    self.same(package.told_more(table, facts), with_facts(table, facts), (table, facts))
                    self.same(package.told_more(as_lists(table), as_lists(facts)), with_facts(table, facts))
                else:
                    self.refused(Unfit, package.told_more, table, facts)
                    self.refused(Unfit, package.told_more, as_lists(table), in_turns(facts, True))

    def test_needless_facts(self):
        held = 0
        for table in some_tables():
            for facts in [facts for facts in fact_sets(table) if can_be(table, facts)]:
                ways = samenesses(with_facts(table, facts))
                wanted = tuple(fact for fact in facts if samenesses(
                    with_facts(table, [other for other in facts if other != fact])) == ways)
                held += len(wanted)
                self.same(package.needless_facts(table, facts), wanted, (table, facts))
                self.same(package.needless_facts(as_lists(table), as_lists(facts)), wanted)
        self.assertGreater(held, 200)

    def test_facts_that_need_one_another(self):
        facts = (("one", "p", "q"), ("one", "p", "r"), ("one", "q", "r"))
        self.same(package.needless_facts(FREE, facts), facts)
        self.same(package.needless_facts(FREE, facts[:2]), ())
        self.same(package.needless_facts(TABLE, (("apart", "a", "c"), ("one", "a", "b"))),
                  (("apart", "a", "c"), ("one", "a", "b")))


class Telling(Case):
    def test_can_tell_and_is_sure_of(self):
        for table, row, spot in some_gets():
            told = values(table, row, spot)
            for value in (None, 0, 1, 2, 3, BOUND, -10 ** 400, *told):
                self.same(package.can_tell(table, row, spot, value), value in told, (table, row, spot, value))
                self.same(package.is_sure_of(table, row, spot, value), told == {value}, (table, row, spot, value))
                self.same(package.is_sure_of(as_lists(table), as_lists(row), spot, value), told == {value})

    def test_sure_with(self):
        counts = {True: 0, False: 0}
        for table, row, spot in some_gets():
            for facts in fact_sets(table)[::3]:
                if not can_be(table, facts):
                    self.refused(Unfit, package.sure_with, table, row, spot, facts)
                    continue
                wanted = is_sure(with_facts(table, facts), row, spot)
                counts[wanted] += 1
                self.same(package.sure_with(table, row, spot, facts), wanted, (table, row, facts))
                self.same(package.sure_with(as_lists(table), as_lists(row), spot, as_lists(facts)), wanted)
        self.assertGreater(min(counts.values()), 300)

    def test_sure_pairs(self):
        for table, row, spot in some_gets():
            for word in ("one", "apart"):
                wanted = tuple(pair for pair in pairs_of(table, "open")
                               if is_sure(with_facts(table, ((word, *pair),)), row, spot))
                self.same(package.sure_pairs(table, row, spot, word), wanted, (table, row, spot, word))
                if is_sure(table, row, spot):
                    self.same(wanted, pairs_of(table, "open"))

    def test_made_sure(self):
        held = 0
        for table, row, _ in some_gets():
            for fact in all_facts(table)[::2]:
                if not can_be(table, (fact,)):
                    self.refused(Unfit, package.made_sure, table, row, fact)
                    continue
                told = with_facts(table, (fact,))
                wanted = tuple(spot for spot in spots(row) if is_sure(told, row, spot)
                               and not is_sure(table, row, spot))
                held += len(wanted)
                self.same(package.made_sure(table, row, fact), wanted, (table, row, fact))
                self.same(package.made_sure(as_lists(table), as_lists(row), list(fact)), wanted)
        self.assertGreater(held, 150)


class Fewest(Case):
    def test_aparts(self):
        fewest = set()
        for table, row, spot in some_gets():
            if len(table[0]) == 6 and len(samenesses(table)) > 60:
                continue
            aparts = [fact for fact in all_facts(table) if fact[0] == "apart" and can_be(table, (fact,))]
            found = next(facts for facts in subsets_by_size(aparts) if can_be(table, facts)
                         and is_sure(with_facts(table, facts), row, spot))
            fewest.add(len(found))
            self.same(package.least_aparts(table, row, spot), found, (table, row, spot))
            self.same(package.fewest_aparts(table, row, spot), len(found), (table, row, spot))
            self.same(package.least_aparts(as_lists(table), as_lists(row), spot), found)
        self.assertTrue({0, 1, 2, 3} <= fewest, fewest)

    def test_guarantee_of_aparts(self):
        for table, row, spot in some_gets():
            at = [place for place, deed in enumerate(row) if deed[0] == "get" and deed[2] == spot][0]
            name = row[at][1]

            def last(lump):
                return max((place for place in range(at) if row[place][0] == "put" and row[place][1] in lump),
                           default=-1)

            lumps = hung(table)
            own = [lump for lump in lumps if name in lump][0]
            others = [lump for lump in lumps if word_of(table, lump[0], name) == "open" and last(lump) > last(own)]
            if last(own) >= 0:
                others = [lump for lump in others if row[last(lump)][2] != row[last(own)][2]]
            self.same(package.fewest_aparts(table, row, spot), len(others), (table, row, spot))

    def test_facts(self):
        fewest = set()
        for table, row, spot in some_gets():
            if len(table[0]) > 4:
                continue
            for value in (None, 0, 1, 2, 7):
                found = None
                if value in values(table, row, spot):
                    found = least(table, lambda told: values(told, row, spot) == {value})
                fewest.add(length(found))
                self.same(package.least_facts(table, row, spot, value), found, (table, row, spot, value))
                self.same(package.fewest_facts(table, row, spot, value), length(found), (table, row, spot, value))
                self.same(package.least_facts(as_lists(table), as_lists(row), spot, value), found)
        self.assertTrue({None, 0, 1, 2} <= fewest)

    def test_facts_of_five_names(self):
        draw = random.Random(133)
        gets = [found for found in some_gets() if len(found[0][0]) == 5]
        for table, row, spot in draw.sample(gets, 15):
            for value in (None, 0, 1, 2):
                found = package.least_facts(table, row, spot, value)
                self.same(package.fewest_facts(table, row, spot, value), length(found))
                if value not in values(table, row, spot):
                    self.same(found, None)
                    continue
                self.assertTrue(can_be(table, found))
                self.assertEqual(values(with_facts(table, found), row, spot), {value})
                if len(found) <= 2:
                    self.same(found, least(table, lambda told: values(told, row, spot) == {value}))
                else:
                    less = least_of_two(table, row, spot, value)
                    self.same(less, None, (table, row, spot, value))

    def test_five_loose_names(self):
        table = (("m", "p", "q", "r", "z"), (), ())
        row = (("put", "p", 1), ("put", "q", 2), ("put", "r", 3), ("put", "m", 4), ("get", "z", "w"))
        self.same(package.least_facts(table, row, "w", None), tuple(("apart", name, "z") for name in "mpqr"))
        self.same(package.least_facts(table, row, "w", 4), (("one", "m", "z"),))
        wanted = (("apart", "m", "p"), ("apart", "p", "q"), ("apart", "p", "r"), ("one", "p", "z"))
        self.same(package.least_facts(table, row, "w", 1), wanted)
        self.same(package.fewest_facts(table, row, "w", 5), None)

    def test_are_facts_for(self):
        counts = {True: 0, False: 0}
        for table, row, spot in some_gets():
            for facts in fact_sets(table)[::2]:
                for value in (None, 1, 2):
                    wanted = can_be(table, facts) and values(with_facts(table, facts), row, spot) == {value}
                    counts[wanted] += 1
                    self.same(package.are_facts_for(table, row, spot, value, facts), wanted, (table, row, facts))
                    self.same(package.are_facts_for(as_lists(table), as_lists(row), spot, value, facts), wanted)
                    self.same(package.are_facts_for(table, row, spot, value, list(facts)), False)
        self.assertGreater(min(counts.values()), 300)

    def test_to_same(self):
        fewest = set()
        pairs = [found for found in some_row_pairs() if len(found[0][0]) <= 4][::4]
        draw = random.Random(134)
        for table in [table for table in some_tables() if len(table[0]) == 4] + [FREE]:
            row = tuple(("put", name, number) for number, name in enumerate(table[0]))
            pairs += [(table, row, tuple(draw.sample(row, 4))) for _ in range(2)]
            pairs += [(table, row[:3], tuple(draw.sample(row[:3], 3)))]
        for table, row, second in pairs:
            fit = [outcome_of(row, cells) == outcome_of(second, cells) for cells in samenesses(table)]
            found = least(table, lambda told: all(outcome_of(row, cells) == outcome_of(second, cells)
                                                  for cells in samenesses(told))) if any(fit) else None
            fewest.add(length(found))
            self.same(package.least_to_same(table, row, second), found, (table, row, second))
            self.same(package.fewest_to_same(table, row, second), length(found), (table, row, second))
            self.same(package.least_to_same(as_lists(table), as_lists(second), as_lists(row)), found)
        self.assertTrue({None, 0, 1, 2, 3, 4} <= fewest, fewest)

    def test_to_same_only_by_the_finest(self):
        # Each two names, put to one behind the other, must be apart.
        puts = tuple(("put", name, number) for number, name in enumerate("pqrz"))
        every = tuple(("apart", *pair) for pair in itertools.combinations("pqrz", 2))
        self.same(package.least_to_same(FREE, puts, puts[::-1]), every)
        self.same(package.fewest_to_same(FREE, puts, puts[::-1]), 6)
        self.same(package.least_to_same(FREE, (("get", "p", "s"), *puts[1:]), (*puts[1:], ("get", "p", "s"))),
                  every[:3])


def least_of_two(table, row, spot, value):
    """The first set of at most two FACTS that makes it sure of the value; None if there is none."""
    for facts in itertools.chain.from_iterable(itertools.combinations(all_facts(table), many) for many in range(3)):
        if can_be(table, facts) and values(with_facts(table, facts), row, spot) == {value}:
            return facts
    return None


class Guarantees(Case):
    def test_facts_for_what_can_be_told(self):
        for table, row, spot in some_gets():
            if len(table[0]) <= 5:
                for value in (None, 0, 1, 2, 7):
                    found = package.fewest_facts(table, row, spot, value)
                    self.same(found is not None, value in values(table, row, spot), (table, row, spot, value))

    def test_one_fact_makes_it_sure(self):
        looked = 0
        for table, row, spot in some_gets():
            if not is_sure(table, row, spot):
                at = [place for place, deed in enumerate(row) if deed[0] == "get" and deed[2] == spot][0]
                ahead = [name for word, name, _ in row[:at] if word == "put"
                         and word_of(table, name, row[at][1]) != "apart"]
                pair = tuple(sorted((ahead[-1], row[at][1])))
                self.assertIn(pair, package.sure_pairs(table, row, spot, "one"), (table, row, spot))
                looked += 1
        self.assertGreater(looked, 50)


class Edges(Case):
    def test_no_facts(self):
        for none in ((), []):
            self.same(package.told_more(TABLE, none), TABLE)
            self.same(package.needless_facts(TABLE, none), ())
            self.same(package.sure_with(TABLE, ROW, "y", none), False)
            self.same(package.sure_with(TABLE, ROW, "x", none), True)
        self.same(package.are_facts(TABLE, ()), True)
        self.same(package.are_facts(TABLE, []), False)
        self.same(package.are_facts_for(TABLE, ROW, "x", None, ()), True)
        self.same(package.are_facts_for(TABLE, ROW, "y", 1, ()), False)

    def test_a_get_that_is_sure(self):
        self.same(package.fewest_aparts(TABLE, ROW, "x"), 0)
        self.same(package.least_facts(TABLE, ROW, "x", None), ())
        self.same(package.fewest_facts(TABLE, ROW, "x", None), 0)
        self.same(package.fewest_facts(TABLE, ROW, "x", 1), None)
        for word in ("one", "apart"):
            self.same(package.sure_pairs(TABLE, ROW, "x", word), (("a", "d"), ("b", "d"), ("c", "d")))
        self.same(package.made_sure(TABLE, ROW, ("one", "a", "b")), ())

    def test_a_table_of_one_name(self):
        table, row = (("q",), (), ()), (("put", "q", 0), ("get", "q", "q"))
        self.same(package.is_fact(table, ("one", "q", "q")), False)
        self.same(package.are_facts(table, ()), True)
        self.same(package.are_facts(table, (("apart", "q", "q"),)), False)
        self.same(package.can_tell(table, row, "q", 0), True)
        self.same(package.can_tell(table, row, "q", None), False)
        self.same(package.sure_pairs(table, row, "q", "one"), ())
        self.same(package.least_aparts(table, row, "q"), ())
        self.same(package.least_facts(table, row, "q", 0), ())
        self.same(package.least_facts(table, row, "q", None), None)
        self.same(package.least_to_same(table, row, row[:1]), None)
        self.same(package.least_to_same(table, row, row), ())

    def test_all_apart(self):
        table = (("a", "b", "c"), (), (("a", "b"), ("a", "c"), ("b", "c")))
        row = (("put", "a", 1), ("get", "b", "s"), ("put", "b", 2), ("get", "b", "t"))
        self.same(package.sure_pairs(table, row, "s", "one"), ())
        self.same(package.fewest_facts(table, row, "t", 2), 0)
        self.same(package.fewest_facts(table, row, "t", 1), None)
        self.refused(Unfit, package.made_sure, table, row, ("one", "a", "b"))
        self.same(package.made_sure(table, row, ("apart", "a", "b")), ())
        self.same(package.needless_facts(table, (("apart", "a", "b"), ("apart", "b", "c"))),
                  (("apart", "a", "b"), ("apart", "b", "c")))

    def test_six_names(self):
        table = (tuple("abcdef"), (), ())
        row = tuple(("put", name, number) for number, name in enumerate("bcdef")) + (("get", "a", "s"),)
        self.same(package.least_aparts(table, row, "s"), tuple(("apart", "a", name) for name in "bcdef"))
        self.same(package.sure_pairs(table, row, "s", "one"), (("a", "f"),))
        self.same(package.sure_pairs(table, row, "s", "apart"), ())
        lump = (table[0], (("a", "f"), ("b", "e")), (("c", "d"),))
        self.same(package.least_aparts(lump, row[:1] + row[1:3] + row[5:], "s"),
                  (("apart", "a", "b"), ("apart", "a", "c"), ("apart", "a", "d")))

    def test_zero_and_nothing(self):
        row = (("put", "a", 0), ("get", "d", "s"))
        self.same(package.can_tell(TABLE, row, "s", 0), True)
        self.same(package.can_tell(TABLE, row, "s", None), True)
        self.same(package.least_facts(TABLE, row, "s", 0), (("one", "a", "d"),))
        self.same(package.least_facts(TABLE, row, "s", None), (("apart", "a", "d"),))


class Errors(Case):
    def test_no_spot(self):
        facts = (("one", "a", "c"),)
        for call, handed in ((package.can_tell, (1,)), (package.is_sure_of, (None,)), (package.sure_with, ((),)),
                             (package.sure_with, (facts,)), (package.sure_pairs, ("one",)), (package.fewest_aparts, ()),
                             (package.least_aparts, ()), (package.fewest_facts, (1,)), (package.least_facts, (None,)),
                             (package.are_facts_for, (1, ())), (package.are_facts_for, (1, None)),
                             (package.are_facts_for, (1, facts))):
            for spot in NO_SPOTS:
                self.refused(NoSpot, call, TABLE, ROW, spot, *handed, spot=spot)
                self.refused(NoSpot, call, as_lists(TABLE), as_lists(ROW), spot, *handed, spot=spot)
            self.refused(NoSpot, call, TABLE, (), "x", *handed, spot="x")
            self.refused(NoSpot, call, TABLE, ROW[:1], "a", *handed, spot="a")
            # Also where no pair is left to be told.
            self.refused(NoSpot, call, (("a", "d"), (("a", "d"),), ()), ROW[::2], "x", *handed, spot="x")

    def test_unfit(self):
        for facts in ((("one", "a", "c"),), (("one", "a", "d"), ("one", "c", "d")), (("apart", "a", "b"),),
                      (("apart", "a", "d"), ("one", "b", "d"))):
            self.refused(Unfit, package.told_more, TABLE, facts)
            self.refused(Unfit, package.told_more, as_lists(TABLE), as_lists(facts))
            self.refused(Unfit, package.sure_with, TABLE, ROW, "y", facts)
            self.refused(Unfit, package.sure_with, TABLE, ROW, "x", as_lists(facts))
            self.same(package.are_facts_for(TABLE, ROW, "x", None, facts), False)
        for fact in (("one", "a", "c"), ("one", "b", "c"), ("apart", "a", "b")):
            self.refused(Unfit, package.made_sure, TABLE, ROW, fact)
            self.refused(Unfit, package.made_sure, TABLE, (), list(fact))
