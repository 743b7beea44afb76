"""ROWS: what puts and gets do by a SAMENESS."""

from aliasrows.basics import frozen, is_name, is_number, set_of
from aliasrows.errors import NoNumber, NoSpot, Unfit
from aliasrows.samenesses import all_samenesses, homes
from aliasrows.tables import check_names, names_of


def is_row(table, thing):
    """Whether thing is a ROW of the TABLE, of however many DEEDS."""
    names = names_of(table)
    if not (isinstance(thing, tuple) and all([_is_deed(part, names) for part in thing])):
        return False
    spots = [deed[2] for deed in thing if deed[0] == "get"]
    return len(set(spots)) == len(spots)


def _is_deed(thing, names):
    """Whether thing is a DEED with one of these names."""
    if not (isinstance(thing, tuple) and len(thing) == 3):
        return False
    word, name, last = thing
    if not (isinstance(name, str) and name in names):
        return False
    return (word == "put" and is_number(last)) or (word == "get" and is_name(last))


def names_in(row):
    """The set of the names that the DEEDS have."""
    return set_of([deed[1] for deed in row])


def spots_of(row):
    """The set of the spots."""
    return set_of([deed[2] for deed in row if deed[0] == "get"])


def puts_of(row):
    """The set of the places of the puts."""
    return _places_of(row, "put")


def gets_of(row):
    """The set of the places of the gets."""
    return _places_of(row, "get")


def _places_of(row, word):
    """The set of the places of the DEEDS with this word."""
    return tuple([place for place, deed in enumerate(row) if deed[0] == word])


def check_spot(row, spot):
    """Raise NoSpot if the ROW has no such spot."""
    if spot not in spots_of(row):
        raise NoSpot(spot)


def sources(row, sameness):
    """Two dicts: for each spot, and for each name behind all DEEDS, the place of the put in its cell, or None."""
    home = homes(sameness)
    latest = {}
    told = {}
    for place, deed in enumerate(row):
        cell = home[deed[1]]
        if deed[0] == "put":
            latest[cell] = place
        else:
            told[deed[2]] = latest.get(cell)
    left = {name: latest.get(home[name]) for name in home}
    return told, left


def number_at(row, place):
    """The number that is put at this place; None if the place is None."""
    return None if place is None else row[place][2]


def values_by(row, sameness):
    """Two dicts: for each spot, and for each name behind all DEEDS, the value there: its number, or None."""
    told, left = sources(row, sameness)
    told_values = {spot: number_at(row, told[spot]) for spot in told}
    return told_values, {name: number_at(row, left[name]) for name in left}


def _numbers(row, places):
    """The ascending tuple of the pairs (key, number) of the keys whose place is not None."""
    return tuple(sorted([(key, row[places[key]][2]) for key in places if places[key] is not None]))


def outcome(table, row, sameness):
    """The OUTCOME of the ROW by the SAMENESS."""
    told, left = sources(row, sameness)
    return (_numbers(row, told), _numbers(row, left))


def told_at(table, row, sameness, spot):
    """The number that is told at this spot; None if none is."""
    return number_at(row, read_from(table, row, sameness, spot))


def left_at(table, row, sameness, name):
    """The number that is left in the cell of this name; None if none is."""
    return number_at(row, left_from(table, row, sameness, name))


def left_along(table, row, sameness):
    """The tuple of what is left ahead of the first DEED and behind each one."""
    return tuple([outcome(table, begun, sameness)[1] for begun in beginnings(row)])


def read_from(table, row, sameness, spot):
    """The place of the put whose number is told at this spot; None if none is."""
    check_spot(row, spot)
    return sources(row, sameness)[0][spot]


def left_from(table, row, sameness, name):
    """The place of the put whose number is left for this name; None if there is none."""
    check_names(names_of(table), (name,))
    return sources(row, sameness)[1][name]


def lost_puts(table, row, sameness):
    """The set of the places of the puts whose numbers are neither told nor left."""
    told, left = sources(row, sameness)
    seen = list(told.values()) + list(left.values())
    return tuple([place for place in puts_of(row) if place not in seen])


def all_outcomes(table, row):
    """The ascending list of all unlike OUTCOMES."""
    return list(set_of([outcome(table, row, sameness) for sameness in all_samenesses(table)]))


def how_many_outcomes(table, row):
    """How many unlike OUTCOMES there are."""
    return len(all_outcomes(table, row))


def samenesses_for(table, row, pair):
    """The ascending list of the SAMENESSES by which the ROW has this OUTCOME."""
    wanted = frozen(pair)
    return [sameness for sameness in all_samenesses(table) if outcome(table, row, sameness) == wanted]


def row_behind(first, second):
    """The ROW with all DEEDS of first, then those of second."""
    taken = spots_of(first)
    if any([spot in taken for spot in spots_of(second)]):
        raise Unfit()
    return frozen(first) + frozen(second)


def without_places(row, places):
    """The ROW without the DEEDS at these places."""
    deeds = frozen(row)
    for number in places:
        if not 0 <= number < len(deeds):
            raise NoNumber(number)
    return tuple([deed for place, deed in enumerate(deeds) if place not in places])


def beginnings(row):
    """The list of the ROWS of the first DEEDS, of none, of one, and so on to all."""
    deeds = frozen(row)
    return [deeds[:many] for many in range(len(deeds) + 1)]
