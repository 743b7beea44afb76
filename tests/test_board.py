"""Point 16: Boards, led by drawn deeds beside a plain state of the test's own, and the errors."""

import copy
import inspect
import random

from aliasrows import beside, errors, sure
from aliasrows.board import Board
from aliasrows.errors import Known, NoName, NoNumber, NoSpot, Unfit
from tests.helper import BOUND, Case, PlainBoard, as_lists, do_the_same, drawn_deed, in_turns, near_row, spots

NAMES = ("a", "b", "c")
NONE = ("x", "", "aa", "A", "s", "abcdefghi")
METHODS = {"put": ["name", "number"], "get": ["name", "spot"], "strike": ["place"], "one": ["name", "other"],
           "apart": ["name", "other"], "untell": ["name", "other"], "undo": [], "table": [], "row": [], "sure": [],
           "left": ["name"], "at": ["spot"], "same": ["row"], "twin": []}


def led():
    """A Board on which some things were done."""
    board = Board(NAMES)
    board.put("a", 1)
    board.put("b", 2)
    board.get("a", "s")
    board.apart("a", "b")
    return board


class Drawn(Case):
    def check_looks(self, board, plain):
        self.same((board.table(), board.row(), len(board)), (plain.table, plain.row, len(plain.row)))
        self.same(board.sure(), plain.sure(), (plain.table, plain.row))
        for name in plain.table[0]:
            self.same(board.left(name), plain.left(name), (plain.table, plain.row, name))
        for spot in spots(plain.row):
            self.same(board.at(spot), plain.at(spot), (plain.table, plain.row, spot))

    def check_deed(self, board, plain, deed):
        """Do the deed on both: they return or raise the same, and a refused one changes nothing."""
        state = (plain.table, plain.row)
        wanted = plain.done(*deed)
        call = getattr(board, deed[0])
        if isinstance(wanted, tuple):
            kind = getattr(errors, wanted[0])
            with self.assertRaises(kind) as caught:
                call(*deed[1:])
            self.assertIs(type(caught.exception), kind)
            self.assertEqual(list(vars(caught.exception).values()), [] if wanted[1] is None else [wanted[1]])
            self.same((board.table(), board.row()), state)
        else:
            self.same(call(*deed[1:]), wanted, deed)
        return wanted if isinstance(wanted, tuple) else ("done",)

    def test_drawn_deeds(self):
        draw = random.Random(161)
        met = {}
        for names in (("q",), ("p", "q"), NAMES, NAMES, ("a", "aa", "ab", "b"), tuple("abcde"), tuple("abcdef")):
            for _ in range(6 if len(names) < 6 else 2):
                board, plain = Board(names), PlainBoard(names)
                self.check_looks(board, plain)
                for _ in range(45):
                    done = self.check_deed(board, plain, drawn_deed(draw, plain))
                    met[done[0]] = met.get(done[0], 0) + 1
                    self.same((board.table(), board.row(), len(board)), (plain.table, plain.row, len(plain.row)))
                    if draw.random() < 0.15:
                        self.check_looks(board, plain)
                self.check_looks(board, plain)
        self.assertEqual(sorted(met), ["Known", "NoName", "NoNumber", "Unfit", "done"])
        self.assertGreater(min(met.values()), 15)

    def test_all_is_taken_back(self):
        draw = random.Random(162)
        for names in (("q",), NAMES, ("a", "aa", "ab", "b"), tuple("abcdef")):
            for _ in range(8):
                board, plain, states = Board(names), PlainBoard(names), []
                for _ in range(40):
                    deed = drawn_deed(draw, plain)
                    state = (plain.table, plain.row)
                    if deed != ("undo",) and self.check_deed(board, plain, deed) == ("done",):
                        states.append(state)
                for state in reversed(states):
                    self.same(board.undo(), True)
                    self.same((board.table(), board.row()), state)
                self.same(board.undo(), False)
                self.assertTrue(board == Board(names))

    def test_same(self):
        draw = random.Random(163)
        counts = {True: 0, False: 0}
        for _ in range(60):
            board, plain = Board(NAMES), PlainBoard(NAMES)
            for _ in range(14):
                self.check_deed(board, plain, drawn_deed(draw, plain))
            for _ in range(5):
                other = near_row(draw, plain.table, plain.row)
                wanted = do_the_same(plain.table, plain.row, other)
                counts[wanted] += 1
                self.same(board.same(other), wanted, (plain.table, plain.row, other))
                self.same(board.same(as_lists(other)), wanted)
                self.same(board.same(in_turns(other, True)), wanted)
                self.same(beside.same_rows(board.table(), board.row(), other), wanted)
            self.same(board.same(board.row()), True)
        self.assertGreater(min(counts.values()), 50)

    def test_twins(self):
        draw = random.Random(164)
        for _ in range(25):
            board, plain = Board(NAMES), PlainBoard(NAMES)
            for _ in range(12):
                self.check_deed(board, plain, drawn_deed(draw, plain))
            twin, other = board.twin(), copy.deepcopy(plain)
            self.assertIs(type(twin), Board)
            self.assertIsNot(twin, board)
            self.assertTrue(twin == board)
            for _ in range(14):
                self.check_deed(board, plain, drawn_deed(draw, plain))
                self.check_deed(twin, other, drawn_deed(draw, other))
                self.same((board.table(), board.row()), (plain.table, plain.row))
                self.same((twin.table(), twin.row()), (other.table, other.row))
            while other.done("undo"):
                self.same(twin.undo(), True)
                self.same((twin.table(), twin.row()), (other.table, other.row))
            self.same(twin.undo(), False)
            self.same((board.table(), board.row()), (plain.table, plain.row))


class Deeds(Case):
    def test_each_returns_none(self):
        board = Board(NAMES)
        for done in (board.put("a", 0), board.get("c", "abcdefgh"), board.strike(0), board.one("c", "a"),
                     board.untell("a", "c"), board.apart("c", "b"), board.untell("a", "a"), board.put("b", -BOUND)):
            self.same(done, None)
        self.same(board.row(), (("get", "c", "abcdefgh"), ("put", "b", -BOUND)))
        self.same(board.table(), (NAMES, (), (("b", "c"),)))

    def test_no_name(self):
        board = led()
        kept = (board.table(), board.row())
        for name in NONE:
            self.refused(NoName, board.put, name, 1, name=name)
            self.refused(NoName, board.get, name, "t", name=name)
            # Ahead of what the spot, or both names, would be refused for.
            self.refused(NoName, board.get, name, "s", name=name)
            self.refused(NoName, board.left, name, name=name)
            for call in (board.one, board.apart, board.untell):
                self.refused(NoName, call, name, "a", name=name)
                self.refused(NoName, call, "a", name, name=name)
                self.refused(NoName, call, name, "zz", name=name)
                self.refused(NoName, call, name, name, name=name)
        self.same((board.table(), board.row()), kept)
        for _ in range(4):
            self.same(board.undo(), True)
        self.same(board.undo(), False)

    def test_known(self):
        board = led()
        for name in NAMES:
            self.refused(Known, board.get, name, "s", name="s")
        self.same(board.row(), (("put", "a", 1), ("put", "b", 2), ("get", "a", "s")))
        board.strike(2)
        board.get("b", "s")
        self.same(board.row()[2:], (("get", "b", "s"),))
        self.refused(Known, board.get, "b", "s", name="s")
        board.undo()
        board.undo()
        self.refused(Known, board.get, "b", "s", name="s")

    def test_no_number(self):
        board = led()
        for place in (3, 4, -1, -3, BOUND, -BOUND, 10 ** 400):
            self.refused(NoNumber, board.strike, place, number=place)
        self.same(len(board), 3)
        self.refused(NoNumber, Board(NAMES).strike, 0, number=0)
        board.strike(1)
        self.same(board.row(), (("put", "a", 1), ("get", "a", "s")))

    def test_unfit(self):
        board = led()
        kept = board.table()
        for call, one, other in ((board.one, "a", "b"), (board.one, "b", "a"), (board.one, "c", "c"),
                                 (board.apart, "a", "a")):
            self.refused(Unfit, call, one, other)
        self.same(board.table(), kept)
        board.one("b", "c")
        self.refused(Unfit, board.apart, "c", "b")
        self.refused(Unfit, board.one, "c", "a")
        board.apart("c", "a")
        self.same(board.table(), (NAMES, (("b", "c"),), (("a", "b"), ("a", "c"))))
        board.untell("c", "b")
        board.untell("a", "b")
        self.same(board.table(), (NAMES, (), (("a", "c"),)))

    def test_no_spot(self):
        board = led()
        for spot in ("t", "a", "", "S", "ss", "abcdefghi"):
            self.refused(NoSpot, board.at, spot, spot=spot)
        self.refused(NoSpot, Board(NAMES).at, "s", spot="s")


class Undo(Case):
    def test_nothing_to_take_back(self):
        for names in (("q",), NAMES):
            board = Board(names)
            self.same(board.undo(), False)
            self.same(board.undo(), False)
            self.assertTrue(board == Board(names))

    def test_deeds_that_changed_nothing(self):
        board = Board(NAMES)
        board.one("a", "b")
        board.one("b", "a")
        board.untell("a", "c")
        board.untell("c", "c")
        self.same(board.table(), (NAMES, (("a", "b"),), ()))
        for _ in range(3):
            self.same(board.undo(), True)
            self.same(board.table(), (NAMES, (("a", "b"),), ()))
        self.same(board.undo(), True)
        self.same(board.table(), (NAMES, (), ()))
        self.same(board.undo(), False)

    def test_refused_deeds_are_none(self):
        board = Board(NAMES)
        board.put("a", 1)
        for call, handed in ((board.put, ("x", 1)), (board.strike, (1,)), (board.one, ("a", "a")),
                             (board.get, ("x", "s"))):
            self.assertRaises((NoName, NoNumber, Unfit), call, *handed)
        self.same(board.undo(), True)
        self.same(len(board), 0)
        self.same(board.undo(), False)

    def test_taken_back_and_on(self):
        board = led()
        board.undo()
        board.put("c", 9)
        self.same(board.undo(), True)
        self.same((board.table(), len(board)), ((NAMES, (), ()), 3))
        self.same(board.undo(), True)
        self.same(board.row(), (("put", "a", 1), ("put", "b", 2)))

    def test_sixty_deeds(self):
        board = Board(NAMES)
        for number in range(30):
            board.put("a", number)
            board.strike(0)
        for number in range(60):
            self.same(board.undo(), True)
            self.same(len(board), 1 if number & 1 == 0 else 0)
        self.same(board.undo(), False)


class Equality(Case):
    def test_unlike_deeds_behind_them(self):
        one, other = led(), Board(list(NAMES))
        self.assertFalse(one == other)
        self.assertTrue(one != other)
        other.put("c", 7)
        other.apart("b", "a")
        other.put("a", 1)
        other.put("b", 2)
        other.strike(0)
        other.get("a", "s")
        self.assertTrue(one == other)
        self.assertFalse(one != other)
        one.undo()
        self.assertFalse(one == other)
        self.assertTrue(one != other)

    def test_rows_that_do_the_same_are_not_enough(self):
        one, other = Board(NAMES), Board(NAMES)
        one.get("a", "s")
        self.assertTrue(one != other)
        self.assertFalse(one == other)
        other.get("b", "s")
        self.same(one.same(other.row()), True)
        self.assertTrue(one != other)
        other.undo()
        other.get("a", "s")
        self.assertTrue(one == other)

    def test_same_samenesses_are_not_enough(self):
        one, other = Board(NAMES), Board(NAMES)
        for board, pairs in ((one, (("a", "b"), ("b", "c"))), (other, (("a", "b"), ("a", "c")))):
            for pair in pairs:
                board.one(*pair)
        self.assertTrue(one != other)
        self.assertFalse(Board(("a",)) == Board(("b",)))
        self.assertFalse(Board(("a", "b")) == Board(("a",)))

    def test_nothing_else(self):
        board = led()
        for other in (7, None, True, "a", (), [], (board.table(), board.row()), board.table(), board.row(), {},
                      len(board), object(), Board, PlainBoard(NAMES)):
            self.assertFalse(board == other, other)
            self.assertTrue(board != other, other)
            self.assertFalse(other == board, other)
            self.assertTrue(other != board, other)

    def test_each_returns_a_bool(self):
        self.same(led() == led(), True)
        self.same(led() == Board(NAMES), False)
        self.same(led() != led(), False)
        self.same(led() == 3, False)


class Rules(Case):
    def test_methods_are_in_the_class(self):
        for name in (*METHODS, "__init__", "__eq__", "__len__"):
            self.assertIn(name, vars(Board))
        for name, handed in METHODS.items():
            self.same(list(inspect.signature(getattr(Board, name)).parameters)[1:], handed, name)
        self.same(list(inspect.signature(Board).parameters), ["names"])

    def test_by_names(self):
        board = Board(names=["a", "b", "c"])
        board.put(number=1, name="a")
        board.put(name="b", number=2)
        board.get(spot="s", name="a")
        board.apart(other="b", name="a")
        self.assertTrue(board == led())
        board.one(name="a", other="c")
        board.untell(name="c", other="a")
        self.same((board.at(spot="s"), board.left(name="c")), ((1,), (None, 1, 2)))
        self.same(board.same(row=board.row()), True)
        board.strike(place=0)
        self.same(len(board), 2)

    def test_a_loop_raises(self):
        for board in (Board(NAMES), led()):
            self.assertRaises(TypeError, lambda: [deed for deed in board])
            self.assertRaises(TypeError, list, board)
            self.assertRaises(TypeError, tuple, board)
            self.assertRaises(TypeError, iter, board)

    def test_it_copies_what_it_is_given(self):
        names = ["a", "b", "c"]
        board = Board(names)
        names.append("d")
        names[0] = "x"
        self.same(board.table(), (NAMES, (), ()))
        self.refused(NoName, board.put, "d", 1, name="d")
        row = as_lists(led().row())
        kept = copy.deepcopy(row)
        led().same(row)
        self.same(row, kept)

    def test_what_is_returned_is_of_tuples(self):
        board = led()
        for got in (board.table(), board.row(), board.sure(), board.left("a"), board.at("s")):
            self.assertIs(type(got), tuple)
        self.same(board.sure(), ((("s", 1),), (("a", 1), ("b", 2))))

    def test_looks_change_nothing(self):
        board = led()
        told = [(board.table(), board.row(), board.sure(), board.left("c"), board.at("s"), len(board),
                 board.twin() == board, board.same(())) for _ in range(3)]
        self.same(told[0], told[1])
        self.same(told[0], told[2])
        for _ in range(4):
            self.same(board.undo(), True)
        self.same(board.undo(), False)

    def test_length(self):
        self.same((len(Board(NAMES)), len(led())), (0, 3))

    def test_boards_are_by_themselves(self):
        one, other = Board(NAMES), Board(NAMES)
        one.put("a", 1)
        self.same((len(one), len(other), other.undo()), (1, 0, False))

    def test_it_tells_what_sure_tells(self):
        board = led()
        self.same(board.sure(), sure.sure_told(board.table(), board.row()))
        self.same(board.at("s"), sure.values_at(board.table(), board.row(), "s"))
        self.same(board.left("c"), sure.values_left(board.table(), board.row(), "c"))

    def test_a_board_of_one_name(self):
        board = Board(["q"])
        self.same((board.table(), board.row(), board.left("q"), board.sure()),
                  ((("q",), (), ()), (), (None,), ((), ())))
        board.get("q", "q")
        board.put("q", 0)
        self.same((board.at("q"), board.left("q"), board.sure()), ((None,), (0,), ((), (("q", 0),))))
        self.refused(Unfit, board.one, "q", "q")
        self.refused(Unfit, board.apart, "q", "q")
        board.untell("q", "q")
        self.same((board.table(), board.undo(), len(board)), ((("q",), (), ()), True, 2))
