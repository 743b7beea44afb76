"""Point 10: needless DEEDS, against all sets of places gone through, and the errors."""

import functools
import itertools
import random

from aliasrows import needless as package
from aliasrows.errors import NoNumber
from tests.helper import BOUND, Case, as_lists, do_the_same, drawn_row, foreign_cells, number_of, outcome_of, partings
from tests.helper import put_told, samenesses, seen_at, seen_left, some_rows, some_tables, spots, subsets, word_of

LOOSE, PAIR = (("p", "q", "r"), (), ()), (("p", "q"), (("p", "q"),), ())
ROW = (("put", "p", 1), ("put", "p", 2), ("get", "q", "s"), ("get", "q", "t"), ("put", "q", 2))
NO_PLACES = (5, 6, -1, -5, BOUND, -BOUND, 10 ** 400)


def without(row, places):
    return tuple(deed for place, deed in enumerate(row) if place not in places)


def few_numbers(draw, table, many):
    """A ROW in which much is needless: of few numbers, and two names at most."""
    names = draw.sample(table[0], min(2, len(table[0])))
    row = []
    for place in range(many):
        name = draw.choice(names)
        row.append(("get", name, "stuvwxyz"[place]) if draw.random() < 0.3 else ("put", name, draw.choice((0, 0, 1))))
    return tuple(row)


@functools.lru_cache(maxsize=None)
def looked():
    """TABLES, ROWS and the sets of places that can go: all of them tried, at each SAMENESS."""
    draw = random.Random(41)
    tried = [(table, row) for table, row in some_rows() if len(samenesses(table)) <= 52]
    for table in some_tables():
        tried += [(table, few_numbers(draw, table, many)) for many in (3, 5, 6)]
        if len(samenesses(table)) <= 15:
            tried += [(table, few_numbers(draw, table, 8))]
    return tuple((table, row, tuple(places for places in subsets(range(len(row)))
                                    if do_the_same(table, row, without(row, places)))) for table, row in tried)


class Going(Case):
    def test_can_go(self):
        counts = {True: 0, False: 0}
        for table, row, going in looked():
            every = subsets(range(len(row)))
            for places in every[::max(1, len(every) // 20)] + list(going[:9]):
                counts[places in going] += 1
                self.same(package.can_go(table, row, places), places in going, (table, row, places))
                self.same(package.can_go(table, as_lists(row), list(places)), places in going)
        self.assertGreater(min(counts.values()), 700)

    def test_needless(self):
        for table, row, going in looked():
            alone = tuple(place for place in range(len(row)) if (place,) in going)
            self.same(package.needless_places(table, row), alone, (table, row))
            for place in range(len(row)):
                self.same(package.is_needless(table, row, place), place in alone, (table, row, place))

    def test_needed_by(self):
        for table, row, going in looked()[::2]:
            for place in range(len(row)):
                unlike = partings(table, row, without(row, (place,)))
                got = package.needed_by(table, row, place)
                self.assertTrue(got in unlike if unlike else got is None, (table, row, place))
                for cells in samenesses(table)[::4] + [*foreign_cells()[::11], None, "a", []]:
                    self.same(package.is_needed_by(table, row, place, cells), cells in unlike, (table, row, place))
                for cells in unlike[:2]:
                    self.same(package.is_needed_by(table, row, place, cells), True, (table, row, place))
                    self.same(package.is_needed_by(table, row, place, as_lists(cells)), False)

    def test_all_that_go(self):
        for table, row, going in looked():
            self.same(package.all_that_go(table, row), list(going), (table, row))
            full = [places for places in going if not any(set(places) < set(other) for other in going)]
            self.same(package.full_sets(table, row), full, (table, row))
            stay = tuple(place for place in range(len(row)) if not any(place in places for places in going))
            self.same(package.always_stay(table, row), stay, (table, row))

    def test_most_gone(self):
        for table, row, going in looked():
            most = min(places for places in going if len(places) == max(map(len, going)))
            self.same(package.most_gone(table, row), most, (table, row))
            self.same(package.least_rest(table, row), without(row, most), (table, row))
            self.same(package.all_rests(table, row), sorted({without(row, places) for places in going}), (table, row))

    def test_dearest_gone(self):
        draw = random.Random(42)
        for table, row, going in looked():
            for numbers in ((0,), (1,), (0, 1, 2), (0, 5, BOUND), range(100)):
                prices = tuple(draw.choice(numbers) for _ in row)
                best = max(sum(prices[place] for place in places) for places in going)
                fit = [places for places in going if sum(prices[place] for place in places) == best]
                wanted = min(fit, key=lambda places: (len(places), places))
                self.same(package.dearest_gone(table, row, prices), wanted, (table, row, prices))
                self.same(package.dearest_gone(table, as_lists(row), list(prices)), wanted)

    def test_gone_by_turns(self):
        draw = random.Random(43)
        for table, row, going in looked():
            for _ in range(4):
                turns = draw.sample(range(len(row)), draw.randrange(len(row) + 1))
                gone = set()
                for place in turns:
                    if tuple(sorted(gone | {place})) in going:
                        gone.add(place)
                self.same(package.gone_by_turns(table, row, tuple(turns)), tuple(sorted(gone)), (table, row, turns))
                self.same(package.gone_by_turns(table, as_lists(row), turns), tuple(sorted(gone)))


class Guarantees(Case):
    def test_the_first_one_goes_alone(self):
        for table, row, _ in looked():
            going = package.all_that_go(table, row)
            self.assertIn((), going)
            for places in going[1:]:
                self.assertIn(places[:1], going, (table, row))

    def test_gets_that_go(self):
        for table, row in some_rows():
            free = [place for place, deed in enumerate(row) if deed[0] == "get" and not any(
                word == "put" and word_of(table, name, deed[1]) != "apart" for word, name, _ in row[:place])]
            for place, deed in enumerate(row):
                if deed[0] == "get":
                    self.same(package.is_needless(table, row, place), place in free, (table, row, place))
            seen = {place for spot in spots(row) for place in seen_at(table, row, spot)}
            seen |= {place for name in table[0] for place in seen_left(table, row, name)}
            lost = [place for place, deed in enumerate(row) if deed[0] == "put" and place not in seen]
            self.same(package.can_go(table, row, tuple(sorted(free + lost))), True, (table, row))


class Twins(Case):
    def test_twins(self):
        held = 0
        for table, row in some_rows() + tuple((table, row) for table, row, _ in looked()[::3]):
            told = {spot: [number_of(row, put_told(row, cells, spot)) for cells in samenesses(table)]
                    for spot in spots(row)}
            pairs = tuple(pair for pair in itertools.combinations(spots(row), 2) if told[pair[0]] == told[pair[1]])
            held += len(pairs)
            self.same(package.twin_spots(table, row), pairs, (table, row))
            at = {deed[2]: place for place, deed in enumerate(row) if deed[0] == "get"}
            spare = tuple(sorted({max(at[one], at[other]) for one, other in pairs}))
            self.same(package.spare_gets(table, row), spare, (table, row))
        self.assertGreater(held, 150)

    def test_twins_by_numbers(self):
        row = (("get", "r", "z"), ("put", "p", 1), ("get", "p", "t"), ("put", "p", 1), ("get", "p", "a"),
               ("put", "r", 1), ("get", "p", "m"), ("get", "q", "b"))
        self.same(package.twin_spots(LOOSE, row), (("a", "m"), ("a", "t"), ("m", "t")))
        self.same(package.spare_gets(LOOSE, row), (4, 6))
        self.same(package.twin_spots(LOOSE, row[:1]), ())
        self.same(package.twin_spots(LOOSE, (("get", "p", "b"), ("get", "r", "a"))), (("a", "b"),))
        self.same(package.spare_gets(LOOSE, (("get", "p", "b"), ("put", "r", 0), ("get", "r", "a"))), ())

    def test_zero_is_not_nothing(self):
        row = (("get", "p", "a"), ("put", "p", 0), ("get", "p", "b"))
        self.same(package.twin_spots(LOOSE, row), ())
        self.same(package.needless_places(LOOSE, row), (0,))


class Edges(Case):
    def test_the_empty_row(self):
        for none in ((), []):
            self.same(package.can_go(LOOSE, none, none), True)
            self.same(package.needless_places(LOOSE, none), ())
            self.same(package.all_that_go(LOOSE, none), [()])
            self.same(package.full_sets(LOOSE, none), [()])
            self.same(package.always_stay(LOOSE, none), ())
            self.same(package.most_gone(LOOSE, none), ())
            self.same(package.least_rest(LOOSE, none), ())
            self.same(package.dearest_gone(LOOSE, none, none), ())
            self.same(package.all_rests(LOOSE, none), [()])
            self.same(package.gone_by_turns(LOOSE, none, none), ())
            self.same(package.twin_spots(LOOSE, none), ())
            self.same(package.spare_gets(LOOSE, none), ())

    def test_no_places(self):
        for none in ((), []):
            self.same(package.can_go(LOOSE, ROW, none), True)
            self.same(package.gone_by_turns(LOOSE, ROW, none), ())

    def test_a_table_of_one_name(self):
        table = (("q",), (), ())
        row = (("put", "q", 1), ("put", "q", 1), ("get", "q", "s"), ("put", "q", 1))
        self.same(package.all_that_go(table, row), [(), (0,), (0, 3), (1,), (1, 3), (3,)])
        self.same(package.most_gone(table, row), (0, 3))
        self.same(package.all_rests(table, row), [row[1:3], row[1:], row[:3], row])
        self.same(package.dearest_gone(table, row, (1, 1, 9, 0)), (0,))
        self.same(package.dearest_gone(table, row, (1, 2, 9, 0)), (1,))
        self.same(package.dearest_gone(table, row, (0, 0, 0, 0)), ())
        self.same(package.gone_by_turns(table, row, (3, 1, 0)), (1, 3))
        self.same(package.always_stay(table, row), (2,))

    def test_eight_gets(self):
        table = (tuple("abcdef"), (), ())
        row = tuple(("get", table[0][place % 6], "stuvwxyz"[place]) for place in range(8))
        self.same(len(package.all_that_go(table, row)), 256)
        self.same(package.full_sets(table, row), [(0, 1, 2, 3, 4, 5, 6, 7)])
        self.same(package.least_rest(table, row), ())
        self.same(len(package.twin_spots(table, row)), 28)
        self.same(package.spare_gets(table, row), (1, 2, 3, 4, 5, 6, 7))
        self.same(package.dearest_gone(table, row, (0, 1, 0, 0, 0, 0, 0, 0)), (1,))

    def test_eight_puts(self):
        table = (tuple("abcdef"), (), (("a", "f"),))
        row = tuple(("put", table[0][place % 6], -BOUND) for place in range(8))
        self.same(package.most_gone(table, row), (0, 1))
        self.same(package.full_sets(table, row), [(0, 1), (0, 7), (1, 6), (6, 7)])
        self.same(package.needless_places(table, row), (0, 1, 6, 7))
        self.same(package.always_stay(table, row), (2, 3, 4, 5))

    def test_two_spots_that_only_three_names_in_one_cell_part(self):
        late = tuple(("put", name, 9) for name in "pqr")
        row = (("put", "p", 1), ("put", "q", 2), ("put", "p", 1), ("get", "r", "s"), *late)
        for cells in samenesses(LOOSE):
            self.same(package.is_needed_by(LOOSE, row, 2, cells), cells == (("p", "q", "r"),), cells)
            self.same(package.is_needed_by(LOOSE, row, 0, cells), False)
        self.same(package.needed_by(LOOSE, row, 2), (("p", "q", "r"),))
        self.same(package.needless_places(LOOSE, row), (0,))


class Errors(Case):
    def test_no_place(self):
        for call, more in ((package.is_needless, ()), (package.needed_by, ()), (package.is_needed_by, (None,)),
                           (package.is_needed_by, ((("p",), ("q",), ("r",)),))):
            for place in NO_PLACES:
                self.refused(NoNumber, call, LOOSE, ROW, place, *more, number=place)
                self.refused(NoNumber, call, as_lists(LOOSE), as_lists(ROW), place, *more, number=place)
            self.refused(NoNumber, call, LOOSE, (), 0, *more, number=0)

    def test_no_place_among_places(self):
        for places, number in (((5,), 5), ((-1,), -1), ((0, 4, 5, 9), 5), ((-5, 9), -5), ((-2, -1, 0), -2),
                               ((-BOUND, 0), -BOUND), ((0, 1, 2, 3, 4, BOUND), BOUND)):
            self.refused(NoNumber, package.can_go, LOOSE, ROW, places, number=number)
            self.refused(NoNumber, package.can_go, as_lists(LOOSE), as_lists(ROW), list(places), number=number)
        self.refused(NoNumber, package.can_go, LOOSE, (), (0,), number=0)

    def test_no_place_among_turns(self):
        for turns, number in (((5,), 5), ((0, -1), -1), ((4, 9, 0, 5), 9), ((9, -5), 9),
                              ((0, 1, 2, 3, 4, BOUND), BOUND)):
            self.refused(NoNumber, package.gone_by_turns, LOOSE, ROW, turns, number=number)
            self.refused(NoNumber, package.gone_by_turns, as_lists(LOOSE), as_lists(ROW), list(turns), number=number)
        self.refused(NoNumber, package.gone_by_turns, LOOSE, (), (0,), number=0)
