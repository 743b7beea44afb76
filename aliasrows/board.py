"""A Board: a TABLE and a ROW of it, with deeds that can be taken back."""

from aliasrows.basics import frozen
from aliasrows.beside import same_rows
from aliasrows.errors import Known
from aliasrows.rows import spots_of, without_places
from aliasrows.sure import sure_told, values_at, values_left
from aliasrows.tables import check_names, names_of, with_apart, with_one, without_pair


class Board:
    """A TABLE and a ROW of it; two Boards are equal if these are."""

    def __init__(self, names):
        self._table = (frozen(names), (), ())
        self._row = ()
        # What both were ahead of each deed that is not taken back.
        self._past = []

    def __eq__(self, other):
        return isinstance(other, Board) and self._table == other._table and self._row == other._row

    def __len__(self):
        return len(self._row)

    def _turn_to(self, table, row):
        """Do a deed that leads to this TABLE and this ROW."""
        self._past.append((self._table, self._row))
        self._table = table
        self._row = row

    def put(self, name, number):
        """Lay the put of this number behind all DEEDS."""
        check_names(names_of(self._table), (name,))
        self._turn_to(self._table, (*self._row, ("put", name, number)))

    def get(self, name, spot):
        """Lay the get with this spot behind all DEEDS."""
        check_names(names_of(self._table), (name,))
        if spot in spots_of(self._row):
            raise Known(spot)
        self._turn_to(self._table, (*self._row, ("get", name, spot)))

    def strike(self, place):
        """Take the DEED at this place out of the ROW."""
        self._turn_to(self._table, without_places(self._row, (place,)))

    def one(self, name, other):
        """Tell that both names are one."""
        self._turn_to(with_one(self._table, name, other), self._row)

    def apart(self, name, other):
        """Tell that both names are apart."""
        self._turn_to(with_apart(self._table, name, other), self._row)

    def untell(self, name, other):
        """Take back what is told of the pair of both names."""
        self._turn_to(without_pair(self._table, name, other), self._row)

    def undo(self):
        """Take back the last deed that is not taken back; return whether there was one."""
        if self._past == []:
            return False
        self._table, self._row = self._past.pop()
        return True

    def table(self):
        """The TABLE."""
        return self._table

    def row(self):
        """The ROW."""
        return self._row

    def sure(self):
        """A pair like an OUTCOME, of what is sure to be told and to be left."""
        return sure_told(self._table, self._row)

    def left(self, name):
        """All values at this name by some SAMENESS."""
        return values_left(self._table, self._row, name)

    def at(self, spot):
        """All values at this spot by some SAMENESS."""
        return values_at(self._table, self._row, spot)

    def same(self, row):
        """Whether row does the same as the ROW of the Board."""
        return same_rows(self._table, self._row, row)

    def twin(self):
        """A new Board with the same TABLE and ROW and the same deeds to be taken back."""
        board = Board(names_of(self._table))
        board._table = self._table
        board._row = self._row
        board._past = list(self._past)
        return board
