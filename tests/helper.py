"""What the tests share: TABLES and ROWS, and all of DOC.md's points 3 to 6 found by going through everything.

Nothing here calls the package: what it tells is read off the definitions alone.
"""

import functools
import itertools
import random
import unittest

BOUND = 10 ** 30


class Case(unittest.TestCase):
    """A test case that tells tuples from lists and True from 1."""

    def same(self, got, wanted, told=None):
        self.assertEqual(repr(got), repr(wanted), told)

    def refused(self, error, call, *args, **attributes):
        """The call raises just this error, with just these attributes."""
        with self.assertRaises(error) as caught:
            call(*args)
        self.assertIs(type(caught.exception), error)
        for name, value in attributes.items():
            self.same(getattr(caught.exception, name), value)


def as_lists(value):
    """The value with lists in the place of tuples, at any depth."""
    if isinstance(value, (list, tuple)):
        return [as_lists(part) for part in value]
    return value


def as_tuples(value):
    """The value with tuples in the place of lists, at any depth."""
    if isinstance(value, (list, tuple)):
        return tuple(as_tuples(part) for part in value)
    return value


def in_turns(value, as_list):
    """The value with lists and tuples in turns, level by level."""
    if isinstance(value, (list, tuple)):
        parts = [in_turns(part, not as_list) for part in value]
        return parts if as_list else tuple(parts)
    return value


def nested(levels, inner=(), kind=tuple):
    """A value that is nested so many levels deep."""
    value = inner
    for _ in range(levels - 1):
        value = kind([value])
    return value


def spoiled(value, spoil):
    """All values that come of it by one change: spoil(part) in the place of a part, the whole included."""
    yield spoil(value)
    if isinstance(value, (list, tuple)):
        for place, part in enumerate(value):
            for fresh in spoiled(part, spoil):
                yield type(value)([*value[:place], fresh, *value[place + 1:]])


# Points 3 to 5: SAMENESSES.

def home_of(sameness):
    return {name: cell for cell in sameness for name in cell}


@functools.lru_cache(maxsize=None)
def partitions(names):
    """All ways to lay names into cells, ascending, by giving each name a number of a cell."""
    found = set()
    for cells in itertools.product(range(len(names)), repeat=len(names)):
        parts = {}
        for name, cell in zip(names, cells):
            parts.setdefault(cell, []).append(name)
        found.add(tuple(sorted(tuple(sorted(part)) for part in parts.values())))
    return sorted(found)


@functools.lru_cache(maxsize=None)
def samenesses(table):
    """All SAMENESSES, ascending; none if the pairs gainsay one another."""
    names, ones, aparts = table
    found = []
    for cells in partitions(names):
        home = home_of(cells)
        if all(home[x] == home[y] for x, y in ones) and all(home[x] != home[y] for x, y in aparts):
            found.append(cells)
    return found


def within(first, second):
    return all(any(set(cell) <= set(other) for other in second) for cell in first)


def together(table, one, other):
    """In how many SAMENESSES both are in one cell, and how many SAMENESSES there are."""
    found = samenesses(table)
    return sum(home_of(cells)[one] == home_of(cells)[other] for cells in found), len(found)


@functools.lru_cache(maxsize=None)
def word_of(table, one, other):
    joined, every = together(table, one, other)
    return "one" if joined == every else "apart" if joined == 0 else "open"


def pairs_of(table, word):
    return tuple(pair for pair in itertools.combinations(table[0], 2) if word_of(table, *pair) == word)


def hung(table):
    """The lumps, by going along the pairs of ones from name to name."""
    found = set()
    for name in table[0]:
        reached, old = {name}, set()
        while reached != old:
            old = set(reached)
            for pair in table[1]:
                if reached & set(pair):
                    reached |= set(pair)
        found.add(tuple(sorted(reached)))
    return tuple(sorted(found))


# Point 6: ROWS.

def put_behind(row, sameness, name):
    """The place of the last put of the row into the cell of this name; None if there is none."""
    home = home_of(sameness)
    for place in reversed(range(len(row))):
        if row[place][0] == "put" and home[row[place][1]] == home[name]:
            return place
    return None


def put_told(row, sameness, spot):
    """The place of the put that the get with this spot finds; None if it finds none."""
    for place, deed in enumerate(row):
        if deed[0] == "get" and deed[2] == spot:
            return put_behind(row[:place], sameness, deed[1])
    raise AssertionError(spot)


def number_of(row, place):
    return None if place is None else row[place][2]


def spots(row):
    return sorted(deed[2] for deed in row if deed[0] == "get")


def left_behind(row, sameness):
    pairs = [(name, number_of(row, put_behind(row, sameness, name))) for name in home_of(sameness)]
    return tuple(sorted(pair for pair in pairs if pair[1] is not None))


def outcome_of(row, sameness):
    pairs = [(spot, number_of(row, put_told(row, sameness, spot))) for spot in spots(row)]
    return tuple(pair for pair in pairs if pair[1] is not None), left_behind(row, sameness)


# TABLES and ROWS to try.

def tables_of(names):
    """All TABLES of these names."""
    pairs = list(itertools.combinations(names, 2))
    for words in itertools.product(("one", "apart", "open"), repeat=len(pairs)):
        ones = tuple(pair for pair, word in zip(pairs, words) if word == "one")
        aparts = tuple(pair for pair, word in zip(pairs, words) if word == "apart")
        if samenesses((names, ones, aparts)):
            yield names, ones, aparts


def drawn_table(draw, names):
    """A TABLE of these names: pairs told as long as some SAMENESS is left."""
    ones, aparts = [], []
    for pair in itertools.combinations(names, 2):
        told = draw.choice((ones, aparts, aparts, None, None, None))
        if told is not None:
            told.append(pair)
            if not samenesses((names, tuple(ones), tuple(aparts))):
                told.pop()
    return names, tuple(ones), tuple(aparts)


@functools.lru_cache(maxsize=None)
def some_tables():
    """All TABLES of one to three names, and listed and drawn ones of up to six."""
    found = [table for names in (("q",), ("p", "q"), ("a", "b", "c")) for table in tables_of(names)]
    names = ("a", "b", "c", "d", "e", "f")
    found += [(names[:4], (("a", "b"),), (("b", "c"),)), (names, (), ()), (names, (), (("a", "f"),))]
    found += [(names, (("a", "f"), ("b", "e"), ("c", "d"), ("c", "e")), ()), (names[:3], (("a", "c"), ("b", "c")), ())]
    found += [(names, (), tuple(itertools.combinations(names, 2)))]
    draw = random.Random(4)
    words = ("a", "aa", "ab", "b", "ba", "k", "zz", "abcdefgh", "zzzzzzzz")
    for many in (4, 4, 4, 4, 4, 4, 5, 5, 5, 5, 5, 5, 6, 6, 6, 6):
        found.append(drawn_table(draw, tuple(sorted(draw.sample(words, many)))))
    return tuple(found)


def drawn_row(draw, table, many):
    """A ROW of so many DEEDS."""
    numbers = (0, 1, 1, 2, -1, -2, BOUND, -BOUND)
    free = ["s", "t", "u", "a", "b", "zzzzzzzz", "st", "us", "v", "w"]
    draw.shuffle(free)
    row = []
    for _ in range(many):
        name = draw.choice(table[0])
        if draw.random() < 0.55:
            row.append(("put", name, draw.choice(numbers)))
        else:
            row.append(("get", name, free.pop()))
    return tuple(row)


@functools.lru_cache(maxsize=None)
def some_rows():
    """Pairs of a TABLE and a ROW of it, of none to eight DEEDS."""
    draw = random.Random(6)
    found = []
    for table in some_tables():
        found += [(table, drawn_row(draw, table, many)) for many in (0, 1, draw.randrange(2, 8), 8)]
    return tuple(found)


# Points 7 to 10: what is seen, and ROWS beside one another.

def seen_at(table, row, spot):
    """By each SAMENESS the place of the put that is seen at this spot, or None."""
    return [put_told(row, cells, spot) for cells in samenesses(table)]


def seen_left(table, row, name):
    """By each SAMENESS the place of the put that is seen at this name, or None."""
    return [put_behind(row, cells, name) for cells in samenesses(table)]


def values_in_order(values):
    """The tuple of unlike values: None at first, then the numbers."""
    return tuple(sorted(set(values), key=lambda value: (value is not None, value or 0)))


@functools.lru_cache(maxsize=None)
def outcomes(table, row):
    """By each SAMENESS the OUTCOME."""
    return [outcome_of(row, cells) for cells in samenesses(table)]


def do_the_same(table, row, second):
    """Whether the OUTCOMES are the same by each SAMENESS; it stops at the first by which they are not."""
    return all(outcome_of(second, cells) == told for cells, told in zip(samenesses(table), outcomes(table, row)))


def partings(table, row, second):
    """The SAMENESSES by which the OUTCOMES are unlike."""
    return [cells for cells, one, other in zip(samenesses(table), outcomes(table, row), outcomes(table, second))
            if one != other]


def subsets(things):
    """All sets of things, ascending."""
    return sorted(some for many in range(len(things) + 1) for some in itertools.combinations(things, many))


def near_row(draw, table, row):
    """A ROW that is little unlike: DEEDS exchanged, left out, put twice, renamed, or given another number."""
    row = list(row)
    place = draw.randrange(len(row)) if row else 0
    way = draw.randrange(7)
    if way in (0, 1) and place + 1 < len(row):
        row[place:place + 2] = [row[place + 1], row[place]]
    elif way == 2:
        del row[place:place + 1]
    elif way == 3 and row and len(row) < 8 and row[place][0] == "put":
        row.insert(place, row[place])
    elif way == 4 and row:
        word, name, last = row[place]
        near = [other for other in table[0] if word_of(table, name, other) == "one"]
        row[place] = (word, draw.choice(near + list(table[0])), last)
    elif way == 5 and row and row[place][0] == "put":
        row[place] = ("put", row[place][1], draw.choice((0, 1, 2)))
    elif way == 6:
        draw.shuffle(row)
    return tuple(row)


@functools.lru_cache(maxsize=None)
def some_row_pairs():
    """Triples of a TABLE and two ROWS of it, some of which do the same."""
    draw = random.Random(8)
    found = []
    for table, row in some_rows():
        near = near_row(draw, table, row)
        found += [(table, row, near), (table, near, near_row(draw, table, near))]
        found.append((table, row, drawn_row(draw, table, draw.randrange(7))))
    for table in some_tables():
        for trio in [*itertools.combinations(table[0], 3), table[0][:1] * 3][-7:]:
            # Two puts and a get through three names: often unlike only where all three are one.
            one, other, third = draw.sample(trio, 3)
            late = tuple(("put", name, 9) for name in table[0])[:5]
            puts = (("put", one, 1), ("put", other, 2))
            get = (("get", third, "s"),)
            found += [(table, puts + get + late, puts[::-1] + get + late), (table, puts + get, puts[::-1] + get)]
            found += [(table, get + puts, puts + get), (table, puts + late, puts[::-1] + late)]
    return tuple(found)


@functools.lru_cache(maxsize=None)
def foreign_cells():
    """SAMENESSES of TABLES of six names, and others: handed in for a TABLE, most of them are none of it."""
    found = list(partitions(tuple("abcdef")))[::29] + list(partitions(("a", "b", "c", "d")))
    return tuple(found + [(), (("a",),), (("q",),), (("a", "b"), ("b", "c")), (("b",), ("a",)), ((), ("a",))])


# Points 11 and 12: DEEDS that pass, and ROWS that are alike, by all exchanges one behind another.

def passes(table, deed, second):
    """Whether both DEEDS pass."""
    if deed[0] == second[0] and (deed[0] == "get" or deed[2] == second[2]):
        return True
    return word_of(table, deed[1], second[1]) == "apart"


def turned(row, place):
    """The ROW with the DEED at this place and the next one exchanged."""
    return (*row[:place], row[place + 1], row[place], *row[place + 2:])


@functools.lru_cache(maxsize=None)
def alike(table, row):
    """For each ROW that exchanges of DEEDS that pass lead to how few of them do."""
    far, edge = {row: 0}, [row]
    for found in edge:
        for place in range(len(row) - 1):
            following = turned(found, place)
            if following not in far and passes(table, found[place], found[place + 1]):
                far[following] = far[found] + 1
                edge.append(following)
    return far


def loose_row(draw, table, many):
    """A ROW of so many DEEDS of which many pass, and some are equal."""
    row = []
    for place in range(many):
        name = draw.choice(table[0])
        row.append(("get", name, "tuvwxyza"[place]) if draw.random() < 0.4 else ("put", name, draw.choice((1, 1, 2))))
    return tuple(row)


@functools.lru_cache(maxsize=None)
def loose_rows():
    """Pairs of a TABLE and a ROW of it, of none to six DEEDS, of which many pass."""
    draw = random.Random(11)
    found = []
    for table in some_tables():
        found += [(table, loose_row(draw, table, many)) for many in (0, 1, 2, 3, 4, 4, 5, 6)]
    return tuple(found)


# Point 13: FACTS.

def all_facts(table):
    """All FACTS of the TABLE, ascending, those that cannot be among them."""
    return [(word, *pair) for word in ("apart", "one") for pair in itertools.combinations(table[0], 2)]


def with_facts(table, facts):
    """The TABLE with the pairs of the facts; maybe none."""
    names, ones, aparts = table
    ones = {*ones, *(fact[1:] for fact in facts if fact[0] == "one")}
    aparts = {*aparts, *(fact[1:] for fact in facts if fact[0] == "apart")}
    return names, tuple(sorted(ones)), tuple(sorted(aparts))


def can_be(table, facts):
    """Whether some SAMENESS of the TABLE fits all facts."""
    return samenesses(with_facts(table, facts)) != []


# Point 14: what ROWS tell.

def told_by(row, cells):
    """What the ROW tells by the SAMENESS."""
    return outcome_of(row, cells)[0]


def subsets_by_size(things):
    """All sets of things, those with fewer first, each time ascending."""
    return (some for many in range(len(things) + 1) for some in itertools.combinations(things, many))


# Points 16 and 18: a TABLE and a ROW with deeds, kept plainly.

class PlainBoard:
    """What a Board ought to keep. What raises there returns here the name of the error and its value."""

    def __init__(self, names):
        self.table, self.row, self.past = (tuple(names), (), ()), (), []

    def done(self, word, *rest):
        """Do the deed of this word; return (error, value), or for undo whether there was one, or None."""
        if word == "undo":
            there = self.past != []
            self.table, self.row = self.past.pop() if there else (self.table, self.row)
            return there
        state = (self.table, self.row)
        wrong = getattr(self, word)(*rest)
        if wrong is None:
            self.past.append(state)
        return wrong

    def unknown(self, *names):
        return next((("NoName", name) for name in names if name not in self.table[0]), None)

    def put(self, name, number):
        if wrong := self.unknown(name):
            return wrong
        self.row += (("put", name, number),)

    def get(self, name, spot):
        if wrong := self.unknown(name):
            return wrong
        if spot in spots(self.row):
            return "Known", spot
        self.row += (("get", name, spot),)

    def strike(self, place):
        if place not in range(len(self.row)):
            return "NoNumber", place
        self.row = self.row[:place] + self.row[place + 1:]

    def one(self, name, other):
        return self.tell(1, name, other)

    def apart(self, name, other):
        return self.tell(2, name, other)

    def tell(self, part, name, other):
        """Tell the pair in ones or in aparts, if a SAMENESS is left, and both are no one name."""
        if wrong := self.unknown(name, other):
            return wrong
        told = [set(pairs) for pairs in self.table[1:]]
        told[part - 1].add(tuple(sorted((name, other))))
        table = (self.table[0], *(tuple(sorted(pairs)) for pairs in told))
        if name == other or samenesses(table) == []:
            return "Unfit", None
        self.table = table

    def untell(self, name, other):
        if wrong := self.unknown(name, other):
            return wrong
        self.table = (self.table[0], *(tuple(pair for pair in pairs if set(pair) != {name, other})
                                       for pairs in self.table[1:]))

    def at(self, spot):
        if spot not in spots(self.row):
            return "NoSpot", spot
        return values_in_order([number_of(self.row, place) for place in seen_at(self.table, self.row, spot)])

    def left(self, name):
        if wrong := self.unknown(name):
            return wrong
        return values_in_order([number_of(self.row, place) for place in seen_left(self.table, self.row, name)])

    def sure(self):
        halves = []
        for look, keys in ((self.at, spots(self.row)), (self.left, self.table[0])):
            halves.append(tuple((key, look(key)[0]) for key in keys if len(look(key)) == 1 and look(key) != (None,)))
        return tuple(halves)


def drawn_deed(draw, board):
    """A deed for the PlainBoard, most of them not refused, such that its ROW has at most eight DEEDS."""
    names = (*board.table[0], *board.table[0], *board.table[0], "x")
    words = ["one", "apart", "apart", "untell", "undo", "undo", "strike"] + ["put", "put", "put", "get", "get"] * 2
    if len(board.row) >= 8:
        words = [word for word in words if word not in ("put", "get")]
    word = draw.choice(words)
    if word == "undo":
        return (word,)
    if word == "strike":
        return word, draw.choice((*range(len(board.row)), *range(len(board.row)), len(board.row), -1, BOUND))
    if word == "put":
        return word, draw.choice(names), draw.choice((0, 1, 2, -1, BOUND, -BOUND))
    return word, draw.choice(names), draw.choice(("s", "t", "u", "a", "v", "w") if word == "get" else names)
