"""Points 2 and 3: is_table, is_sameness and is_row, handed whatever thing."""

import itertools

from aliasrows.rows import is_row
from aliasrows.samenesses import is_sameness
from aliasrows.tables import is_table
from tests.helper import BOUND, Case, as_lists, nested, samenesses, some_rows, some_tables, spoiled

TABLE = (("a", "b", "c", "d"), (("a", "b"),), (("b", "c"),))
CELLS = (("a", "b"), ("c", "d"))
ROW = (("put", "a", 5), ("get", "d", "s"), ("put", "c", -7), ("get", "b", "t"))
HUGE = 10 ** 5000
DEEP = (nested(12), nested(12, [], list), nested(12, ("a",)), nested(12, ("put", "a", 1)), nested(11, CELLS))
ODD = (None, True, False, "", "A", "abcdefghi", "a b", "a1", "\u00e9", "\uff41", "\u00df", "a\n", [], ["a"],
       [["a", "b"]], ((),), ("a", 1), ("a", None), (("a", "b", "c"),), (("a",),))
# Within a thing three levels deep these make twelve.
INNER = (nested(9), nested(9, [], list), nested(9, ("a",)), nested(8, CELLS))
WORDS = ("abcdefgh", "z", "zzzzzzzz", "a", "mn")
BAD_WORDS = ("", "abcdefghi", "A", "aB", "a1", "a ", " a", "a_", "a-b", "\u00e9", "a\u0300", "\uff41", "\u0430", "`",
             "{", "\u00df", "a\n", "\n", "a" * 100000, 0, 1, True, None, ("a",), ["a"], (), [])


def long_names(many):
    """So many NAMES, ascending."""
    letters = "abcdefghijklmnopqrstuvwxyz"
    return tuple(itertools.islice(("".join(signs) for signs in itertools.product(letters, repeat=4)), many))


def longer(part):
    """A tuple with None behind it, a string too long for a NAME, None for a number."""
    if isinstance(part, tuple):
        return part + (None,)
    return part * 9 if isinstance(part, str) else None


class Any(Case):
    def no(self, call, *args):
        self.same(call(*args), False, args[-1:])

    def yes(self, call, *args):
        self.same(call(*args), True, args[-1:])

    def check_odd(self, call, *ahead):
        """Whatever is nothing of what is asked for is told to be none, without an error."""
        for thing in ODD + DEEP + (0, 1, -1, HUGE, "a", "put", (1, 2, 3), [1, "a", None], (None,) * 3, ((), (), ()),
                                   [[], [], []]):
            self.no(call, *ahead, thing)
        for thing in (nested(12, None), [nested(11, True)] * 1000, ("a",) * 100000, (("a",),) * 100000, (0,) * 100000):
            self.no(call, *ahead, thing)

    def check_spoiled(self, call, thing, *ahead):
        """One part changed makes it none: whatever odd thing stands there, or a list for a tuple."""
        self.yes(call, *ahead, thing)
        for odd in ODD + INNER:
            for other in spoiled(thing, lambda part: odd):
                self.no(call, *ahead, other)
        for other in spoiled(thing, lambda part: list(part) if isinstance(part, tuple) else None):
            self.no(call, *ahead, other)
        for other in spoiled(thing, longer):
            self.no(call, *ahead, other)
        self.no(call, *ahead, as_lists(thing))

    def check_asked(self, asked):
        """Each function tells what is handed behind its other arguments from all odd things, and from it bent."""
        for call, ahead, thing in asked:
            for handed in (ahead, as_lists(ahead)):
                self.check_odd(call, *handed)
                self.check_spoiled(call, thing, *handed)


class IsTable(Any):
    def test_odd_things(self):
        self.check_odd(is_table)

    def test_one_part_changed(self):
        self.check_spoiled(is_table, TABLE)

    def test_tables(self):
        for table in some_tables():
            self.yes(is_table, table)

    def test_all_small_things(self):
        names = ("a", "b", "c")
        pairs = list(itertools.product(names, repeat=2))
        sets = [()] + [(pair,) for pair in pairs] + list(itertools.product(pairs, repeat=2))
        for ones, aparts in itertools.product(sets, repeat=2):
            table = (names, ones, aparts)
            fit = all(one < other for one, other in ones + aparts)
            fit = fit and all(list(part) == sorted(set(part)) for part in (ones, aparts))
            self.same(is_table(table), fit and samenesses(table) != [], table)

    def test_names(self):
        for word in WORDS:
            self.yes(is_table, ((word,), (), ()))
        for word in BAD_WORDS:
            self.no(is_table, ((word,), (), ()))
            self.no(is_table, (("a", word), (), ()))
            self.no(is_table, ((word, "a"), (), ()))
        for names in ((), ("b", "a"), ("a", "a"), ("b", "aa"), ("a", "c", "b"), ("ab", "a"), "ab", "a"):
            self.no(is_table, (names, (), ()))
        self.yes(is_table, (("a", "aa", "ab", "b"), (("a", "aa"), ("a", "b"), ("aa", "ab")), ()))

    def test_pairs(self):
        names = ("a", "b", "c")
        for pairs in ((("b", "a"),), (("a", "a"),), (("a", "x"),), (("x", "y"),), (("a", "b"), ("a", "b")), ("ab",),
                      (("b", "c"), ("a", "b")), (("a", "c"), ("a", "b")), (("a",),), (("a", "b", "c"),), ((),),
                      ("a", "b"), (("a", True),), ((0, 1),), ((None, "b"),), (("a", "b"), ("a", 1)), (["a", "b"],),
                      ((("a",), "b"),)):
            self.no(is_table, (names, pairs, ()))
            self.no(is_table, (names, (), pairs))
        self.no(is_table, (names, (("a", "b"), ("b", "c")), (("a", "c"),)))
        self.no(is_table, (names, (("a", "c"), ("b", "c")), (("a", "b"),)))
        self.no(is_table, (names, (("a", "b"),), (("a", "b"),)))
        self.yes(is_table, (names, (("a", "b"),), (("a", "c"), ("b", "c"))))
        self.no(is_table, (names, ()))
        self.no(is_table, (names, (), (), ()))

    def test_however_many_names(self):
        names = long_names(30000)
        chain = tuple(zip(names, names[1:]))
        star = tuple((names[0], name) for name in names[1:])
        self.yes(is_table, (names, (), ()))
        self.yes(is_table, (names, chain, ()))
        self.yes(is_table, (names, chain[1:], ((names[0], names[-1]),)))
        self.no(is_table, (names, chain, ((names[0], names[-1]),)))
        self.yes(is_table, (names, star[:-1], ((names[1], names[-1]),)))
        self.no(is_table, (names, star, ((names[1], names[-1]),)))
        self.yes(is_table, (names, (), chain))
        self.no(is_table, (names + ("a",), (), ()))
        seven = tuple("abcdefg")
        self.yes(is_table, (seven, tuple(zip(seven[:6:2], seven[1:6:2])), (("a", "g"),)))
        ends = tuple(zip(names, reversed(names)))[:15000]
        self.yes(is_table, (names, ends, ((names[0], names[1]),)))
        self.no(is_table, (names, ends, ((names[0], names[-1]),)))


class IsSameness(Any):
    def test_odd_things(self):
        for table in (TABLE, as_lists(TABLE), (("q",), (), ())):
            self.check_odd(is_sameness, table)

    def test_one_part_changed(self):
        self.check_spoiled(is_sameness, CELLS, TABLE)

    def test_all_small_things(self):
        cells = [cell for many in range(4) for cell in itertools.product(("a", "b", "c", "x"), repeat=many)]
        things = [thing for many in range(3) for thing in itertools.product(cells, repeat=many)]
        things += itertools.product([cell for cell in cells if len(cell) < 2], repeat=3)
        some = [table for table in some_tables() if table[0] == ("a", "b", "c")]
        for table in some[::6] + [(("a", "b", "c"), (), ())]:
            found = samenesses(table)
            for thing in things:
                self.assertIs(is_sameness(table, thing), thing in found, (table, thing))

    def test_samenesses_of_one_table_are_not_all_of_another_one(self):
        six = [table for table in some_tables() if table[0] == tuple("abcdef")]
        for table, other in itertools.product(six, repeat=2):
            found = samenesses(table)
            for cells in samenesses(other)[::3]:
                self.assertIs(is_sameness(table, cells), cells in found)

    def test_forms(self):
        free = (("a", "b", "c"), (), ())
        self.yes(is_sameness, free, (("a", "c"), ("b",)))
        for thing in ((), (("a",), ("b",)), (("a", "b", "c"), ()), ((), ("a", "b", "c")), (("c", "a"), ("b",)), "abc",
                      (("b",), ("a", "c")), (("a", "c"), ("b",), ("b",)), (("a", "b"), ("b", "c")), ("a", "b", "c"),
                      (("a", "c"), ("b",), ("x",)), (("a", "a", "c"), ("b",)), (("a", "b", "c"), None), ("ac", "b"),
                      [("a", "c"), ("b",)], (["a", "c"], ("b",)), (("a", "c"), ["b"]), (("a", "c"), "b"), (("a", 0),),
                      (("a", True), ("b", "c")), (("a", None),), ((("a",), "c"), ("b",)), (("a",), (("b",), "c"))):
            self.no(is_sameness, free, thing)

    def test_great_things(self):
        names = long_names(30000)
        self.no(is_sameness, TABLE, tuple((name,) for name in names))
        self.no(is_sameness, TABLE, (names,))
        self.no(is_sameness, TABLE, (("a", "b"),) + tuple((name,) for name in names))


class IsRow(Any):
    def test_odd_things(self):
        for table in (TABLE, as_lists(TABLE), (("q",), (), ())):
            for thing in ODD + DEEP + (0, HUGE, "a", "put", ("put", "a", 1), ("put",), (("put", "a"),), (None,) * 3):
                self.no(is_row, table, thing)
            for thing in (nested(12, None), [("put", "a", 1)] * 9, ("a",) * 100000, (("get", "a", "s"),) * 100000):
                self.no(is_row, table, thing)

    def test_one_part_changed(self):
        self.check_spoiled(is_row, ROW, TABLE)

    def test_rows(self):
        for table, row in some_rows():
            self.yes(is_row, table, row)
            self.yes(is_row, as_lists(table), row)

    def test_forms(self):
        table = (("a", "b"), (), ())
        for number in (0, -1, BOUND, -BOUND, BOUND + 1, HUGE, -HUGE):
            self.yes(is_row, table, (("put", "a", number),))
        for number in (True, False, None, "1", "s", (), (1,), [1]):
            self.no(is_row, table, (("put", "a", number),))
        for spot in WORDS + ("b",):
            self.yes(is_row, table, (("get", "a", spot), ("put", "b", 1)))
        for spot in BAD_WORDS:
            self.no(is_row, table, (("get", "a", spot),))
        for name in ("x", "ab", "", "s", None, 0, ("a",), ["a"], ()):
            self.no(is_row, table, (("put", name, 1),))
            self.no(is_row, table, (("get", name, "s"),))
        for word in ("Put", "", "gets", "puts", None, 0, True, ("put",), ["get"], "a", "lay"):
            self.no(is_row, table, ((word, "a", 1),))
            self.no(is_row, table, ((word, "a", "s"),))
        for deed in ((), ("put",), ("put", "a"), ("put", "a", 1, 1), ("get", "a", "s", "s"), "put", ("a", "put", 1)):
            self.no(is_row, table, (deed,))

    def test_spots(self):
        table = (("a", "b"), (), ())
        self.no(is_row, table, (("get", "a", "s"), ("put", "a", 1), ("get", "b", "s")))
        self.no(is_row, table, (("get", "a", "s"), ("get", "a", "s")))
        self.yes(is_row, table, (("get", "a", "a"), ("get", "a", "b"), ("put", "a", 1), ("put", "a", 1)))

    def test_however_many_deeds(self):
        table = (("a", "b"), (), ())
        gets = tuple(("get", "a", name) for name in long_names(30000))
        self.yes(is_row, table, gets)
        self.no(is_row, table, gets + gets[:1])
        self.yes(is_row, table, (("put", "b", 3),) * 30000)
        self.no(is_row, table, (("put", "b", 3),) * 30000 + (("put", "c", 3),))
