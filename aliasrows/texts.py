"""Texts for TABLES, ROWS and cells, and what stands in them."""

from aliasrows.basics import frozen, is_ascending, is_name, is_set_of_strings
from aliasrows.errors import BadText
from aliasrows.tables import is_table


def table_text(table):
    """The text of the TABLE."""
    names, ones, aparts = frozen(table)
    return "; ".join([" ".join(names), _pairs_text(ones, "="), _pairs_text(aparts, "/")])


def _pairs_text(pairs, sign):
    """The text of the pairs, with the sign between the names of each; a minus sign if there is none."""
    return "-" if pairs == () else " ".join([one + sign + other for one, other in pairs])


def table_in(text):
    """The TABLE with this text."""
    parts = text.split("; ")
    if len(parts) != 3:
        raise BadText()
    table = (tuple(parts[0].split(" ")), _pairs_in(parts[1], "="), _pairs_in(parts[2], "/"))
    # Names have letters alone: what is a TABLE now was written just so.
    if not is_table(table):
        raise BadText()
    return table


def _pairs_in(text, sign):
    """What stands between the blanks of the text, each parted by the sign: pairs, if the text is that of pairs."""
    return () if text == "-" else tuple([tuple(word.split(sign)) for word in text.split(" ")])


def row_text(row):
    """The text of the ROW."""
    deeds = frozen(row)
    return "-" if deeds == () else " ".join([_deed_text(deed) for deed in deeds])


def _deed_text(deed):
    """The text of the DEED."""
    word, name, last = deed
    return name + ":=" + str(last) if word == "put" else name + ">" + last


def row_in(text):
    """The ROW with this text."""
    if text == "-":
        return ()
    row = tuple([_deed_in(word) for word in text.split(" ")])
    spots = [deed[2] for deed in row if deed[0] == "get"]
    if len(set(spots)) < len(spots):
        raise BadText()
    return row


def _deed_in(word):
    """The DEED with this text."""
    # Without the sign nothing stands behind it: neither a number nor a spot.
    name, _, number = word.partition(":=")
    if is_name(name) and is_number_text(number):
        return ("put", name, int(number))
    name, _, spot = word.partition(">")
    if is_name(name) and is_name(spot):
        return ("get", name, spot)
    raise BadText()


def is_number_text(text):
    """Whether a number is written so."""
    digits = text.removeprefix("-")
    # Other signs, too, are digits to Python.
    if digits == "" or not all(["0" <= sign <= "9" for sign in digits]):
        return False
    return digits[0] != "0" or text == "0"


def cells_text(cells):
    """The text of the set of sets of NAMES."""
    sets = frozen(cells)
    return "-" if sets == () else "; ".join([" ".join(cell) for cell in sets])


def cells_in(text):
    """The set of sets of NAMES with this text."""
    if text == "-":
        return ()
    cells = tuple([tuple(part.split(" ")) for part in text.split("; ")])
    names = [name for cell in cells for name in cell]
    if not all([is_name(name) for name in names]) or len(set(names)) < len(names):
        raise BadText()
    if not (all([is_set_of_strings(cell) for cell in cells]) and is_ascending(cells)):
        raise BadText()
    return cells
