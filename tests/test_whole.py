"""The whole document: what several points say of the same TABLES and ROWS, beside one another."""

import random

from aliasrows import beside, desk, more, moved, needless, plainrow, probes, readings, rows, samenesses, sure, tables
from aliasrows import texts
from aliasrows.board import Board
from tests.helper import Case, loose_rows, number_of, put_behind, put_told, some_row_pairs, some_rows, some_tables
from tests.helper import samenesses as all_samenesses
from tests.helper import spots, values_in_order


def board_of(table, row):
    """A Board led to this TABLE and this ROW."""
    board = Board(table[0])
    for pair in table[1]:
        board.one(*pair)
    for pair in table[2]:
        board.apart(*pair)
    for word, name, last in row:
        getattr(board, word)(name, last)
    return board


def lines_of(table, row):
    """The lines that lead a desk there."""
    lines = ["one " + " ".join(pair) for pair in table[1]] + ["apart " + " ".join(pair) for pair in table[2]]
    return lines + [f"{word} {name} {last}" for word, name, last in row]


class Looks(Case):
    def test_boards_and_desks(self):
        for table, row in some_rows():
            board = board_of(table, row)
            self.same((board.table(), board.row()), (table, row))
            told = [(spot, values_in_order([number_of(row, put_told(row, cells, spot))
                                            for cells in all_samenesses(table)]))
                    for spot in spots(row)]
            left = [(name, values_in_order([number_of(row, put_behind(row, cells, name))
                                            for cells in all_samenesses(table)]))
                    for name in table[0]]
            self.same([(spot, board.at(spot)) for spot in spots(row)], told)
            self.same([(name, board.left(name)) for name in table[0]], left)
            halves = tuple(tuple((key, values[0]) for key, values in half if len(values) == 1 and values != (None,))
                           for half in (told, left))
            self.same(board.sure(), halves, (table, row))
            self.check_desk(table, row, board)

    def check_desk(self, table, row, board):
        lines = lines_of(table, row)
        got = desk.replies(table[0], "\n".join(lines + ["table", "row", "many", "ways", "gets", "sure"]))
        self.same(got[:len(lines)], ["done"] * len(lines))
        self.same(texts.table_in(got[-6]), table)
        self.same(texts.row_in(got[-5]), row)
        self.same(got[-4:-1], [str(len(row)), str(len(all_samenesses(table))), str(probes.fewest_gets(table))])
        pairs = [tuple(tuple(pair.split("=")) for pair in half.split()) if half != "-" else ()
                 for half in got[-1].split("; ")]
        self.same(tuple(tuple((key, int(number)) for key, number in half) for half in pairs), board.sure())

    def test_what_is_told_of_pairs(self):
        for table in some_tables():
            for one in table[0]:
                for other in table[0]:
                    word = tables.told_of(table, one, other)
                    lines = lines_of(table, ()) + [f"told {one} {other}"]
                    self.same(desk.replies(table[0], "\n".join(lines))[-1], word)
                    cells = [samenesses.are_one(table, way, one, other) for way in all_samenesses(table)]
                    self.same(word, "one" if all(cells) else "open" if any(cells) else "apart")
            by = readings.table_by(table, ())
            self.same(by, tables.filled(table))
            self.same(tables.same_tables(by, table), True)
            self.same(readings.open_by(table, ()), tables.open_pairs(table))

    def test_boards_do_the_same(self):
        for table, row, second in some_row_pairs()[::5]:
            board = board_of(table, row)
            self.same(board.same(second), beside.same_rows(table, row, second), (table, row, second))
            self.same(board.same(second), board_of(table, second).same(row))
            self.same(board == board_of(table, second), row == second)


class Moving(Case):
    def test_alike_rows_do_the_same(self):
        for table, row in loose_rows():
            if len(row) > 5:
                continue
            board = board_of(table, row)
            for other in plainrow.alike_rows(table, row)[::5]:
                self.same(board.same(other), True, (table, row, other))
                self.same(beside.same_whatever(table, row, other), True)
                self.same(plainrow.plain_row(table, other), plainrow.plain_row(table, row))
                self.same(probes.told_parts(table, other), probes.told_parts(table, row))

    def test_what_passes_keeps(self):
        for table, row in loose_rows():
            for place in moved.passing_places(table, row):
                self.same(moved.keeps(table, row, place), True)
                self.same(beside.same_rows(table, row, moved.exchanged(table, row, place)), True)

    def test_needless_deeds_on_a_board(self):
        for table, row in some_rows()[::3]:
            for place in needless.needless_places(table, row):
                board = board_of(table, row)
                board.strike(place)
                self.same(board.same(row), True, (table, row, place))
                self.same(board.undo(), True)
                self.same(board.row(), row)


class Told(Case):
    def test_facts_on_a_board(self):
        for table, row in some_rows()[::2]:
            for spot in spots(row)[:2]:
                board = board_of(table, row)
                for word, name, second in more.least_aparts(table, row, spot):
                    self.same(word, "apart")
                    board.apart(second, name)
                self.same(len(board.at(spot)), 1, (table, row, spot))
                self.same(more.sure_with(table, row, spot, more.least_aparts(table, row, spot)), True)

    def test_fewest_facts_and_values(self):
        for table, row in some_rows()[::3]:
            for spot in spots(row)[:1] if len(table[0]) <= 5 else ():
                for value in sure.values_at(table, row, spot):
                    facts = more.least_facts(table, row, spot, value)
                    told = more.told_more(table, facts)
                    self.same(sure.values_at(told, row, spot), (value,))
                    self.same(more.are_facts_for(table, row, spot, value, facts), True)
                    self.same(sure.how_many_tell(told, row, spot, value), samenesses.how_many_samenesses(told))

    def test_probes_and_readings_lead_to_one_hidden_sameness(self):
        draw = random.Random(191)
        for table in some_tables():
            hidden = draw.choice(all_samenesses(table))
            found = probes.told_back(table, lambda row: rows.outcome(table, row, hidden)[0])
            self.same(found, hidden)
            one = readings.reading_of(table, probes.probe_row(table), hidden)
            self.same(readings.all_that_fit(table, (one,)), [hidden])
            by = readings.table_by(table, (one,))
            self.same(samenesses.all_samenesses(by), [hidden])
            self.same(probes.fewest_gets(by), 0)
            self.same(probes.tells_all(by, ()), True)

    def test_texts_of_all_that_is_returned(self):
        for table, row in some_rows():
            self.same(texts.table_in(texts.table_text(tables.filled(table))), tables.filled(table))
            self.same(texts.row_in(texts.row_text(plainrow.plain_row(table, row))), plainrow.plain_row(table, row))
            for cells in samenesses.coarsest(table):
                self.same(texts.cells_in(texts.cells_text(cells)), cells)
            self.same(texts.row_in(texts.row_text(probes.probe_row(table))), probes.probe_row(table))
