"""Point 17: texts there and back, and that each reading takes just the texts that are so written."""

import itertools
import random
import re

from aliasrows import texts as package
from aliasrows.errors import BadText
from aliasrows.rows import is_row
from tests.helper import BOUND, Case, as_lists, in_turns, loose_rows, partitions, samenesses, some_rows, some_tables
from tests.test_things import long_names

NAME = "[a-z]{1,8}"
SIGNS = "ab-+ ;:=>/_.,0129AZ\n\t\u00e9\uff41\u0661\u00b2\u2003"


def blanks(part):
    """The expression for one or more such parts with a blank between two."""
    return f"(?:{part})(?: (?:{part}))*"


TABLE = re.compile(f"({blanks(NAME)}); (-|{blanks(NAME + '=' + NAME)}); (-|{blanks(NAME + '/' + NAME)})")
ROW = re.compile("-|" + blanks(f"{NAME}:=(?:0|-?[1-9][0-9]*)|{NAME}>{NAME}"))
CELLS = re.compile(f"-|{blanks(NAME)}(?:; {blanks(NAME)})*")


def ascends(things):
    return all(one < other for one, other in zip(things, things[1:]))


def table_of(text):
    """The TABLE with this text; None if there is none."""
    found = TABLE.fullmatch(text)
    if found is None:
        return None
    names, ones, aparts = found.groups()
    names = tuple(names.split())
    ones, aparts = (tuple(tuple(re.findall(NAME, pair)) for pair in part.split() if pair != "-")
                    for part in (ones, aparts))
    pairs = ones + aparts
    if not (ascends(names) and ascends(ones) and ascends(aparts) and all(ascends(pair) for pair in pairs)):
        return None
    if not {name for pair in pairs for name in pair} <= set(names):
        return None
    return (names, ones, aparts) if samenesses((names, ones, aparts)) else None


def row_of(text):
    """The ROW with this text; None if there is none."""
    if ROW.fullmatch(text) is None:
        return None
    row = ()
    for word in text.split() if text != "-" else []:
        name, sign, last = re.fullmatch("([a-z]+)(:=|>)(.*)", word).groups()
        row += (("put", name, int(last)),) if sign == ":=" else (("get", name, last),)
    spots = [deed[2] for deed in row if deed[0] == "get"]
    return row if len(set(spots)) == len(spots) else None


def cells_of(text):
    """The cells with this text; None if there are none."""
    if CELLS.fullmatch(text) is None:
        return None
    cells = tuple(tuple(part.split()) for part in text.split(";")) if text != "-" else ()
    names = [name for cell in cells for name in cell]
    fit = len(set(names)) == len(names) and ascends(cells) and all(ascends(cell) for cell in cells)
    return cells if fit else None


def bent(text):
    """All texts with one sign left out, put in or changed, or with two exchanged, or two parts by a blank."""
    for place in range(len(text) + 1):
        for sign in SIGNS:
            yield text[:place] + sign + text[place:]
            yield text[:place] + sign + text[place + 1:]
        yield text[:place] + text[place + 1:]
        yield text[:place] + text[place + 1:place + 2] + text[place:place + 1] + text[place + 2:]
        yield text[:place]
        yield text[place:]
    words = text.split(" ")
    for one, other in itertools.combinations(range(len(words)), 2):
        turned = list(words)
        turned[one], turned[other] = words[other], words[one]
        yield " ".join(turned)


class Texts(Case):
    def check(self, call, wanted, text):
        """The reading takes the text just if something has it, and tells what."""
        if wanted is None:
            self.refused(BadText, call, text)
        else:
            self.same(call(text), wanted, text)

    def check_bent(self, call, reading, text, write):
        """All texts bent in one place."""
        taken = 0
        for other in bent(text):
            wanted = reading(other)
            taken += wanted is not None
            self.check(call, wanted, other)
            if wanted is not None:
                self.same(write(wanted), other)
        self.assertGreater(taken, 0, text)


class Tables(Texts):
    def test_there_and_back(self):
        for table in some_tables():
            names, ones, aparts = table
            text = " ".join(names) + "; " + (" ".join("=".join(pair) for pair in ones) or "-")
            text += "; " + (" ".join("/".join(pair) for pair in aparts) or "-")
            self.same(package.table_text(table), text)
            self.same(package.table_text(as_lists(table)), text)
            self.same(package.table_text(in_turns(table, False)), text)
            self.same(package.table_in(text), table)

    def test_bent(self):
        for text in ("q; -; -", "a b; a=b; -", "a b c; a=b; a/c b/c", "a aa b; -; a/aa", "ab abcdefgh; ab=abcdefgh; -",
                     "a b c d; a=b c=d; a/c"):
            self.check_bent(package.table_in, table_of, text, package.table_text)

    def test_all_short_texts_of_few_words(self):
        names, ones, aparts = ("a b", "a", "a a", "b a", "a b c", "", "-"), ("-", "a=b", "a=a", "a=c", "b=a"), None
        aparts = [part.replace("=", "/") for part in ones]
        for parts in itertools.product(names, ones + ("a=b b=c", "a=b a=b", "a/b"), aparts + ["a/b a/c", "a=b", ""]):
            for text in ("; ".join(parts), ";".join(parts), " ; ".join(parts)):
                self.check(package.table_in, table_of(text), text)

    def test_refused(self):
        for text in ("", " ", "-", "; ; ", "a; -", "a; -; -; -", "-; -; -", "a; ; ", "a;-;-", " a; -; -", "a; -; - ",
                     "A; -; -", "a  b; -; -", "a\tb; -; -", "a; -; -\n", "abcdefghi; -; -", "a a; -; -", "b a; -; -",
                     "a b; a/b; -", "a b; -; a=b", "a b; b=a; -", "a b; a=b; a/b", "a b; a=b -; -", "a b; - a=b; -",
                     "a b; a=b=b; -", "a b c; a=b b=c; a/c", "a b; a=x; -", "a b; a=b a=b; -", "a b c; b=c a=b; -",
                     "a b; =b; -", "a b; a; -", "\u00e9; -; -", "\uff41; -; -", "a1; -; -", "a%; -; -", "a; -; -;",
                     "a, b; -; -", "a b; a=a; -", "a; --; -"):
            self.refused(BadText, package.table_in, text)

    def test_however_many_names(self):
        names = long_names(20000)
        text = " ".join(names) + "; " + " ".join(f"{one}={other}" for one, other in zip(names, names[1:])) + "; -"
        self.same(len(package.table_in(text)[1]), 19999)
        self.refused(BadText, package.table_in, text[:-1] + f"{names[0]}/{names[-1]}")


class Rows(Texts):
    def test_there_and_back(self):
        for table, row in some_rows() + loose_rows():
            words = [f"{name}:={last}" if word == "put" else f"{name}>{last}" for word, name, last in row]
            text = " ".join(words) or "-"
            self.same(package.row_text(row), text)
            self.same(package.row_text(as_lists(row)), text)
            self.same(package.row_text(in_turns(row, False)), text)
            self.same(package.row_in(text), row)
            self.assertTrue(is_row(table, package.row_in(text)))

    def test_bent(self):
        for text in ("-", "a:=0", "a:=-1 b>s", "zz:=10 zz>zz", "a>s b>t a:=20", "abcdefgh:=-907 a>abcdefgh b>b"):
            self.check_bent(package.row_in, row_of, text, package.row_text)

    def test_numbers(self):
        for number in (0, 1, -1, 9, 10, -10, 99, BOUND, -BOUND, BOUND + 1, 10 ** 399, -(10 ** 399),
                       123456789 * 10 ** 300):
            self.same(package.row_in(f"a:={number}"), (("put", "a", number),))
        for number in (0, 7, -7, BOUND, -BOUND):
            self.same(package.row_text((("put", "a", number),)), f"a:={number}")
        for word in ("", "-", "-0", "00", "01", "-01", "+1", "--1", "1-", "1.0", "1_0", " 1", "1 ", "0x1", "1e3", "a",
                     "\u0661", "\u00b2", "1\n", "None", "True", "-" + "0" * 40, "0" * 400, "1,0", "\uff11", "-\u0661"):
            self.refused(BadText, package.row_in, "a:=" + word)
            self.refused(BadText, package.row_in, "a:=1 a:=" + word)

    def test_refused(self):
        for text in ("", " ", "- ", " -", "--", "a", "a>", ">s", ">", ":=", ":=1", "a:=", "a=1", "a:1", "a: =1", "a> s",
                     "a >s", "a>s b>s", "a>s  b>t", " a>s", "a>s ", "a>s\nb>t", "a>s\n", "a>S", "A>s", "a>s1", "a>>s",
                     "a>s>t", "a:=b", "a>1", "a:=1:=2", "a:=1>s", "a>s:=1", "abcdefghi>s", "a>abcdefghi", "a>s - b>t",
                     "-a>s", "a>s;b>t", "a:=:=1", "a>:=1", "\u00e9>s", "a>\uff41", "a>s a>s", "a>s b:=1 c>s"):
            self.refused(BadText, package.row_in, text)

    def test_whatever_names_and_however_many_deeds(self):
        names = long_names(20000)
        row = tuple(("get", name, name) for name in names) + tuple(("put", name, -3) for name in names)
        text = package.row_text(row)
        self.same(package.row_in(text) == row, True)
        self.refused(BadText, package.row_in, text + " a>" + names[500])


class Cells(Texts):
    def test_there_and_back(self):
        found = [cells for table in some_tables() for cells in samenesses(table)[::5]]
        for cells in found + [(("a", "c"), ("b",)), (("k",),), ((tuple("abcdefghijkl")),)]:
            text = "; ".join(" ".join(cell) for cell in cells)
            self.same(package.cells_text(cells), text)
            self.same(package.cells_text(as_lists(cells)), text)
            self.same(package.cells_text(in_turns(cells, True)), text)
            self.same(package.cells_in(text), cells)
        for none in ((), []):
            self.same(package.cells_text(none), "-")
        self.same(package.cells_in("-"), ())

    def test_bent(self):
        for text in ("-", "a", "a c; b", "a; b; c", "ab abcdefgh; b", "a b c; d e"):
            self.check_bent(package.cells_in, cells_of, text, package.cells_text)

    def test_orders_of_all_cells(self):
        for cells in partitions(("a", "b", "c", "d")):
            for order in itertools.permutations([" ".join(cell) for cell in cells]):
                self.check(package.cells_in, cells_of("; ".join(order)), "; ".join(order))
                turned = "; ".join(" ".join(reversed(part.split())) for part in order)
                self.check(package.cells_in, cells_of(turned), turned)

    def test_refused(self):
        for text in ("", " ", "; ", "a;b", "a; ", "; a", "a ; b", "a;  b", "b; a", "b a", "a a", "a; a", "a b; b",
                     "a; -", "-; a", "-; -", "- ", "A", "a1", "abcdefghi", "a\n", "a\tb", "a, b", "a b;", "a; b; ",
                     "\u00e9", "a/b", "a=b", "a c; a"):
            self.refused(BadText, package.cells_in, text)

    def test_however_many_names(self):
        names = long_names(20000)
        text = " ".join(names[:9000]) + "; " + "; ".join(names[9000:])
        self.same(package.cells_in(text), (names[:9000], *((name,) for name in names[9000:])))
        self.refused(BadText, package.cells_in, text + "; " + names[0])


class Drawn(Texts):
    def test_words_thrown_together(self):
        draw = random.Random(171)
        words = ["a", "b", "c", "-", ";", "; ", " ", " ", "=", "/", ":=", ">", "0", "1", "-1", "s", "a=b", "b/c", "a>s",
                 "b:=2"]
        for _ in range(6000):
            text = "".join(draw.choice(words) for _ in range(draw.randrange(1, 9)))
            self.check(package.table_in, table_of(text), text)
            self.check(package.row_in, row_of(text), text)
            self.check(package.cells_in, cells_of(text), text)

    def test_by_names(self):
        self.same(package.table_text(table=(("q",), (), ())), "q; -; -")
        self.same(package.table_in(text="q; -; -"), (("q",), (), ()))
        self.same(package.row_text(row=[["put", "a", 1]]), "a:=1")
        self.same(package.row_in(text="a:=1"), (("put", "a", 1),))
        self.same(package.cells_text(cells=[["a"]]), "a")
        self.same(package.cells_in(text="a"), (("a",),))
