"""A desk: requests put to a Board, line by line, and their replies."""

from aliasrows.basics import is_name
from aliasrows.board import Board
from aliasrows.errors import BadLine, Known, NoName, NoNumber, NoSpot, Unfit
from aliasrows.probes import fewest_gets
from aliasrows.samenesses import how_many_samenesses
from aliasrows.tables import told_of
from aliasrows.texts import is_number_text, row_text, table_text

# For each first word of a request the kinds of the words behind it.
KINDS = {
    "put": ("name", "number"), "get": ("name", "name"), "strike": ("number",),
    "one": ("name", "name"), "apart": ("name", "name"), "untell": ("name", "name"), "undo": (),
    "table": (), "row": (), "many": (), "ways": (), "gets": (), "told": ("name", "name"),
    "at": ("name",), "left": ("name",), "sure": (),
}
BOUND = 10 ** 30


def is_request(thing):
    """Whether thing is a string that is a request."""
    if not isinstance(thing, str):
        return False
    words = thing.split(" ")
    if words[0] not in KINDS:
        return False
    kinds = KINDS[words[0]]
    return len(words) == len(kinds) + 1 and all([_is_of_kind(word, kind) for word, kind in zip(words[1:], kinds)])


def _is_of_kind(word, kind):
    """Whether the word is a NAME, or a number within bounds, as the kind tells."""
    if kind == "name":
        return is_name(word)
    # Longer ones are beyond the bounds, and maybe too long to be read.
    return len(word) <= 32 and is_number_text(word) and abs(int(word)) <= BOUND


def replies(names, text):
    """The list of the replies to the lines of the text, put to a new Board of these names."""
    lines = [] if text == "" else text.split("\n")
    for number, line in enumerate(lines):
        if not is_request(line):
            raise BadLine(number)
    board = Board(names)
    return [_reply(board, line.split(" ")) for line in lines]


def _reply(board, words):
    """The reply to the request of these words."""
    try:
        return _done(board, words[0], words[1:])
    except NoName:
        return "refused NoName"
    except NoSpot:
        return "refused NoSpot"
    except NoNumber:
        return "refused NoNumber"
    except Known:
        return "refused Known"
    except Unfit:
        return "refused Unfit"


def _done(board, word, rest):
    """Do the deed of the request, or look; return the reply."""
    if word == "undo":
        return "yes" if board.undo() else "no"
    if word == "put":
        board.put(rest[0], int(rest[1]))
    elif word == "get":
        board.get(rest[0], rest[1])
    elif word == "strike":
        board.strike(int(rest[0]))
    elif word == "one":
        board.one(rest[0], rest[1])
    elif word == "apart":
        board.apart(rest[0], rest[1])
    elif word == "untell":
        board.untell(rest[0], rest[1])
    else:
        return _look(board, word, rest)
    return "done"


def _look(board, word, rest):
    """The reply to a request that looks."""
    if word == "table":
        return table_text(board.table())
    if word == "row":
        return row_text(board.row())
    if word == "many":
        return str(len(board))
    if word == "ways":
        return str(how_many_samenesses(board.table()))
    if word == "gets":
        return str(fewest_gets(board.table()))
    if word == "told":
        return told_of(board.table(), rest[0], rest[1])
    if word == "at":
        return _values_text(board.at(rest[0]))
    if word == "left":
        return _values_text(board.left(rest[0]))
    return "; ".join([_half_text(half) for half in board.sure()])


def _values_text(values):
    """The text of the values."""
    return " ".join(["none" if value is None else str(value) for value in values])


def _half_text(pairs):
    """The text of the pairs (NAME, number)."""
    return "-" if pairs == () else " ".join([name + "=" + str(number) for name, number in pairs])
