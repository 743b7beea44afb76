"""Point 18: a desk, led by drawn requests beside a plain state of the test's own, and what is no request."""

import itertools
import random
import re

from aliasrows import desk as package
from aliasrows import probes, samenesses, tables, texts
from aliasrows.board import Board
from aliasrows.errors import BadLine
from tests.helper import BOUND, Case, PlainBoard, as_lists, drawn_deed, hung, spots, subsets_by_size, word_of
from tests.helper import samenesses as all_samenesses
from tests.test_texts import SIGNS, bent

NAMES = ("a", "b", "c")
NAME, NUMBER = "[a-z]{1,8}", "(?:0|-?[1-9][0-9]{0,30})"
FORMS = re.compile(f"put {NAME} ({NUMBER})|strike ({NUMBER})|(?:get|one|apart|untell|told) {NAME} {NAME}"
                   f"|(?:at|left) {NAME}|undo|table|row|many|ways|gets|sure")
LINES = ("put a 1", "put abcdefgh -20", "get a s", "strike 0", "strike -1", "one a b", "apart b a", "untell c a",
         "undo", "table", "row", "many", "ways", "gets", "told a b", "at s", "left c", "sure")


def is_request(line):
    """Whether the line is a request, by its form."""
    found = FORMS.fullmatch(line)
    return found is not None and all(abs(int(number)) <= BOUND for number in found.groups() if number is not None)


def fewest_gets(table):
    """How few names there are in a COVER."""
    pairs = [one + other for one, other in itertools.combinations(hung(table), 2)
             if word_of(table, one[0], other[0]) == "open"]
    return next(len(some) for some in subsets_by_size(table[0]) if all(set(some) & set(pair) for pair in pairs))


def told(values):
    """The reply that tells these values."""
    return " ".join("none" if value is None else str(value) for value in values)


def half(pairs):
    return " ".join(f"{name}={number}" for name, number in pairs) or "-"


def reply(board, line):
    """The reply that the PlainBoard has to the line."""
    word, *rest = line.split()
    if word in ("put", "strike"):
        rest[-1] = int(rest[-1])
    table, row = board.table, board.row
    if word in ("put", "get", "strike", "one", "apart", "untell", "undo"):
        done = board.done(word, *rest)
        return "refused " + done[0] if isinstance(done, tuple) else {None: "done", True: "yes", False: "no"}[done]
    if word in ("at", "left"):
        values = getattr(board, word)(*rest)
        return "refused " + values[0] if values[0] in ("NoSpot", "NoName") else told(values)
    if word == "told":
        unknown = board.unknown(*rest)
        return "refused NoName" if unknown else word_of(table, *rest)
    if word == "sure":
        return "; ".join(half(pairs) for pairs in board.sure())
    if word == "table":
        parts = (" ".join(table[0]), " ".join("=".join(pair) for pair in table[1]) or "-",
                 " ".join("/".join(pair) for pair in table[2]) or "-")
        return "; ".join(parts)
    if word == "row":
        return " ".join(f"{name}:={last}" if kind == "put" else f"{name}>{last}" for kind, name, last in row) or "-"
    return str({"many": len(row), "ways": len(all_samenesses(table)), "gets": fewest_gets(table)}[word])


def drawn_look(draw, board):
    names = (*board.table[0], "x")
    return draw.choice(("table", "row", "many", "ways", "gets", "sure", "told " + " ".join(draw.choices(names, k=2)),
                        "left " + draw.choice(names), "at " + draw.choice((*spots(board.row), *spots(board.row), "s"))))


class Replies(Case):
    def test_drawn_requests(self):
        draw = random.Random(181)
        met = {}
        for names in (("q",), ("p", "q"), NAMES, NAMES, ("a", "aa", "ab", "b"), tuple("abcde"), tuple("abcdef")):
            for _ in range(8 if len(names) < 6 else 3):
                board, lines, wanted = PlainBoard(names), [], []
                for _ in range(60):
                    deed = drawn_deed(draw, board)
                    lines.append(" ".join(map(str, deed)) if draw.random() < 0.5 else drawn_look(draw, board))
                    wanted.append(reply(board, lines[-1]))
                    kind = wanted[-1] if wanted[-1].startswith("refused") else lines[-1].split()[0]
                    met[kind] = met.get(kind, 0) + 1
                self.same(package.replies(names, "\n".join(lines)), wanted, (names, lines))
                self.same(package.replies(list(names), "\n".join(lines)), wanted)
        words = {"put", "get", "strike", "one", "apart", "untell", "undo", "table", "row", "many", "ways", "gets",
                 "told", "at", "left", "sure"}
        self.assertEqual(set(met), words | {"refused " + error
                                            for error in ("NoName", "NoSpot", "NoNumber", "Known", "Unfit")})
        self.assertGreater(min(met.values()), 8, met)

    def test_each_line_alone(self):
        for line in LINES:
            self.same(package.replies(NAMES, line), [reply(PlainBoard(NAMES), line)], line)
            self.same(package.replies(("q",), line), [reply(PlainBoard(("q",)), line)], line)

    def test_refused_requests_change_nothing(self):
        text = "put a 1\nget a s\napart a b"
        for line, word in (("put x 1", "NoName"), ("get x s", "NoName"), ("get b s", "Known"), ("strike 2", "NoNumber"),
                           ("strike -1", "NoNumber"), ("one a b", "Unfit"), ("one a a", "Unfit"),
                           ("apart c c", "Unfit"), ("one x a", "NoName"), ("apart a x", "NoName"),
                           ("untell x x", "NoName"), ("at t", "NoSpot"), ("left s", "NoName"), ("told a x", "NoName"),
                           ("strike -" + str(BOUND), "NoNumber")):
            got = package.replies(NAMES, f"{text}\n{line}\nrow\ntable\nundo\ntable")
            self.same(got, ["done"] * 3 + ["refused " + word, "a:=1 a>s", "a b c; -; a/b", "yes", "a b c; -; -"], line)

    def test_lines_and_line_feeds(self):
        self.same(package.replies(NAMES, ""), [])
        self.same(package.replies(["q"], ""), [])
        for text, number in (("\n", 0), ("row\n", 1), ("\nrow", 0), ("row\n\nrow", 1), ("row\nrow\n", 2),
                             ("row\r\nrow", 0), ("row\nrow ", 1), ("row\n row", 1), ("row\vrow", 0),
                             ("row\nrow\x85row", 1), (" ", 0), ("row\nlook\nlook", 1), ("put a 1\nput a 01\nput", 1),
                             ("put x 1\nrows", 1)):
            self.refused(BadLine, package.replies, NAMES, text, number=number)
            self.refused(BadLine, package.replies, list(NAMES), text, number=number)
        self.same(package.replies(NAMES, "\n".join(["row"] * 60)), ["-"] * 60)
        self.refused(BadLine, package.replies, NAMES, "\n".join(["row"] * 59 + ["rows"]), number=59)

    def test_numbers(self):
        for number in (0, 1, -1, BOUND, -BOUND):
            self.same(package.replies(NAMES, f"put a {number}\nleft a\nrow"), ["done", str(number), f"a:={number}"])
        for number in (BOUND + 1, -BOUND - 1, 10 ** 400, -10 ** 399, "00", "-0", "+1", "01", "", "\u0661"):
            self.refused(BadLine, package.replies, NAMES, f"row\nput a {number}", number=1)
            self.refused(BadLine, package.replies, NAMES, f"strike {number}", number=0)
        self.same(package.replies(NAMES, f"strike {BOUND}\nstrike -{BOUND}"), ["refused NoNumber"] * 2)

    def test_values_in_their_order(self):
        text = "put a 10\nput b 9\nput c -1\nget a s\nat s\nleft a\nleft c\nsure"
        self.same(package.replies(("a", "b", "c", "d"), text)[4:], ["-1 9 10", "-1 9 10", "-1", "-; c=-1"])
        self.same(package.replies(("a", "b", "c", "d"), text + "\nleft d\nget d t\nat t")[-3:],
                  ["none -1 9 10", "done", "none -1 9 10"])

    def test_spots_called_as_names_are(self):
        text = "put b 4\nget b b\nget a a\nat b\nat a\nsure\nleft a"
        self.same(package.replies(NAMES, text)[3:], ["4", "none 4", "b=4; b=4", "none 4"])

    def test_each_text_anew(self):
        for _ in range(3):
            self.same(package.replies(NAMES, "many\nput a 1\nmany\nundo\nmany\nundo"),
                      ["0", "done", "1", "yes", "0", "no"])

    def test_by_names(self):
        self.same(package.replies(text="row", names=["q"]), ["-"])
        self.same(package.is_request(thing="row"), True)

    def test_what_is_returned_belongs_to_the_caller(self):
        got = package.replies(NAMES, "row\nmany")
        self.same(got, ["-", "0"])
        got.append("x")
        self.same(package.replies(NAMES, "row\nmany"), ["-", "0"])
        names = ["a", "b"]
        package.replies(names, "put a 1\none a b")
        self.same(names, ["a", "b"])


class Requests(Case):
    def test_lines(self):
        for line in LINES:
            self.same(package.is_request(line), True, line)

    def test_bent_lines(self):
        counts = {True: 0, False: 0}
        for line in LINES:
            for other in bent(line):
                wanted = is_request(other)
                counts[wanted] += 1
                self.same(package.is_request(other), wanted, other)
        self.assertGreater(min(counts.values()), 250)

    def test_drawn_lines(self):
        draw = random.Random(182)
        words = ["put", "get", "strike", "one", "apart", "untell", "undo", "table", "row", "many", "ways", "gets",
                 "told", "at", "left", "sure", "a", "b", "0", "-7", "01", "abcdefghi", "", "A", "put a"]
        counts = {True: 0, False: 0}
        for _ in range(20000):
            line = " ".join(draw.choice(words) for _ in range(draw.randrange(1, 5)))
            counts[is_request(line)] += 1
            self.same(package.is_request(line), is_request(line), line)
        self.assertGreater(min(counts.values()), 400)

    def test_no_requests(self):
        for thing in ("", " ", "look", "Undo", "undo ", " undo", "undo\n", "undo 1", "put", "put a", "put a 1 2",
                      "put  a 1", "put a  1", "put a\t1", "put 1 a", "put a b", "get a", "get a s t", "get a 1",
                      "strike", "strike a", "strike 0 0", "strike 1.0", "one a", "one a b c", "told a", "at", "at s t",
                      "left", "left a b", "sure a", "put a 1\nrow", "put a 1_0", "put a \u0661", "get a \uff41",
                      "put \u00e9 1", "put A 1", "many many", "row;", "put a 0x1", "putt a 1", "put a 1 ",
                      "get abcdefghi s", "get a abcdefghi", "un do", "name", "number"):
            self.same(package.is_request(thing), False, thing)

    def test_other_kinds(self):
        for thing in (None, True, False, 0, 1, (), [], ("undo",), ["undo"], ("put", "a", 1), (("undo",),), 10 ** 5000):
            self.same(package.is_request(thing), False)

    def test_very_long_things(self):
        for thing in ("put a " + "1" * 100000, "put a -" + "1" * 100000, "strike " + "0" * 100000, "a" * 100000,
                      " " * 100000, "put " * 50000, "undo" * 50000, "put a " + "1" * 32, "put a -" + "9" * 31,
                      ("undo",) * 50000):
            self.same(package.is_request(thing), False)
        self.same(package.is_request("put a " + "9" * 30), True)
        self.same(package.is_request("put a -1" + "0" * 30), True)
        self.same(package.is_request("put a 1" + "0" * 30), True)
        self.same(package.is_request("put a 1" + "0" * 29 + "1"), False)


class WholeProgram(Case):
    def test_beside_boards_and_texts(self):
        draw = random.Random(183)
        for names in (NAMES, ("a", "aa", "ab", "b"), tuple("abcdef")):
            for _ in range(12):
                board, plain, lines = Board(names), PlainBoard(names), []
                for _ in range(25):
                    deed = drawn_deed(draw, plain)
                    if not isinstance(plain.done(*deed), tuple):
                        getattr(board, deed[0])(*deed[1:])
                        lines.append(" ".join(map(str, deed)))
                looks = ["table", "row", "many", "ways", "gets", "sure"]
                got = dict(zip(looks, package.replies(names, "\n".join(lines + looks))[-6:]))
                self.same(texts.table_in(got["table"]), board.table())
                self.same(texts.row_in(got["row"]), board.row())
                self.same(got["table"], texts.table_text(board.table()))
                self.same(got["row"], texts.row_text(board.row()))
                self.same(int(got["many"]), len(board))
                self.same(int(got["ways"]), samenesses.how_many_samenesses(board.table()))
                self.same(int(got["gets"]), probes.fewest_gets(board.table()))
                self.same(tables.is_table(board.table()), True)
                self.same(got["sure"], "; ".join(half(pairs) for pairs in board.sure()))
                for cells in samenesses.all_samenesses(board.table())[::9]:
                    self.same(texts.cells_in(texts.cells_text(cells)), cells)

    def test_signs_of_texts_are_no_requests(self):
        for sign in SIGNS:
            self.same(package.is_request(sign), False)
            self.same(package.is_request("row" + sign), False)
        for text in ("a b; a=b; -", "a:=1 b>s", "-"):
            self.same(package.is_request(text), False)

    def test_lists_at_the_names(self):
        self.same(package.replies(as_lists(NAMES), "table"), ["a b c; -; -"])
