"""READINGS: what ROWS told, and the SAMENESSES that fit it."""

from aliasrows.basics import frozen, is_ascending, is_number, set_of
from aliasrows.errors import Unfit
from aliasrows.probes import told_by, told_counts
from aliasrows.rows import is_row, spots_of
from aliasrows.samenesses import all_samenesses, homes, how_many_samenesses
from aliasrows.tables import check_names, names_of


def is_readings(table, thing):
    """Whether thing is READINGS, of however many READINGS and DEEDS."""
    return isinstance(thing, tuple) and all([_is_reading(table, part) for part in thing])


def _is_reading(table, thing):
    """Whether thing is a READING."""
    if not (isinstance(thing, tuple) and len(thing) == 2 and is_row(table, thing[0])):
        return False
    row, told = thing
    spots = {spot: True for spot in spots_of(row)}
    if not (isinstance(told, tuple) and all([_is_telling(part, spots) for part in told])):
        return False
    # No spot twice: so the spots alone ascend, not just the pairs.
    return is_ascending([spot for spot, _ in told])


def _is_telling(thing, spots):
    """Whether thing is a pair of one of these spots and a number."""
    if not (isinstance(thing, tuple) and len(thing) == 2 and isinstance(thing[0], str)):
        return False
    return thing[0] in spots and is_number(thing[1])


def reading_of(table, row, sameness):
    """The READING with this ROW that the SAMENESS fits."""
    return (frozen(row), told_by(table, row, sameness))


def fits(table, readings, sameness):
    """Whether the SAMENESS fits the READINGS."""
    return _fits(table, frozen(readings), sameness)


def _fits(table, readings, sameness):
    """Whether the SAMENESS fits the READINGS, in which tuples stand in the place of lists."""
    return all([told_by(table, row, sameness) == told for row, told in readings])


def all_that_fit(table, readings):
    """The ascending list of the SAMENESSES that fit."""
    every = frozen(readings)
    return [sameness for sameness in all_samenesses(table) if _fits(table, every, sameness)]


def how_many_fit(table, readings):
    """How many SAMENESSES fit."""
    return len(all_that_fit(table, readings))


def first_lie(table, readings):
    """The place of the first READING with which, and with all ahead of it, no SAMENESS fits; None if there is none."""
    left = all_samenesses(table)
    for place, reading in enumerate(frozen(readings)):
        left = [sameness for sameness in left if _fits(table, (reading,), sameness)]
        if left == []:
            return place
    return None


def _fitting(table, readings):
    """The ascending list of the SAMENESSES that fit; raise Unfit if none does."""
    found = all_that_fit(table, readings)
    if found == []:
        raise Unfit()
    return found


def _pairs_by(table, readings, answers):
    """The set of the pairs of names of which those that fit say whether they are in one cell by just these answers."""
    ways = [homes(sameness) for sameness in _fitting(table, readings)]
    names = names_of(table)
    pairs = [(one, other) for one in names for other in names if one < other]
    return tuple([(one, other) for one, other in pairs
                  if set_of([home[one] == home[other] for home in ways]) == answers])


def ones_by(table, readings):
    """The set of the pairs of names that are in one cell by each SAMENESS that fits."""
    return _pairs_by(table, readings, (True,))


def aparts_by(table, readings):
    """The set of the pairs of names that are in one cell by no SAMENESS that fits."""
    return _pairs_by(table, readings, (False,))


def open_by(table, readings):
    """The set of the pairs of names that are in one cell by some SAMENESSES that fit, and by others not."""
    return _pairs_by(table, readings, (False, True))


def table_by(table, readings):
    """The TABLE with ones_by as ones, aparts_by as aparts."""
    return (names_of(table), ones_by(table, readings), aparts_by(table, readings))


def is_whole(table, readings):
    """Whether each SAMENESS of the TABLE that table_by tells fits."""
    # Each one that fits is a SAMENESS of that TABLE: so all of them fit if they are as many.
    return how_many_samenesses(table_by(table, readings)) == how_many_fit(table, readings)


def will_tell(table, readings, row):
    """The ascending list of all that the ROW tells by those that fit."""
    return [told for told, _ in parts_by(table, readings, row)]


def parts_by(table, readings, row):
    """The ascending tuple of the pairs (told, number): by just number of those that fit the ROW tells this."""
    return told_counts(table, row, _fitting(table, readings))


def is_useless(table, readings, row):
    """Whether the ROW tells the same by all that fit."""
    return len(parts_by(table, readings, row)) == 1


def _plain_get(table, name):
    """The ROW that puts 0, 1, 2, .. to all names, then gets this name at the spot that is called so."""
    puts = [("put", other, number) for number, other in enumerate(names_of(table))]
    return (*puts, ("get", name, name))


def _worst(table, ways, name):
    """The greatest number of these SAMENESSES by which the plain get of this name tells the same."""
    return max([many for _, many in told_counts(table, _plain_get(table, name), ways)])


def worst_left(table, readings, name):
    """The greatest number of SAMENESSES that fit by which the plain get of this name tells the same."""
    check_names(names_of(table), (name,))
    return _worst(table, _fitting(table, readings), name)


def next_get(table, readings):
    """The least name of which worst_left tells the least number; None if just one SAMENESS fits already."""
    ways = _fitting(table, readings)
    if len(ways) == 1:
        return None
    return min(names_of(table), key=lambda name: (_worst(table, ways, name), name))


def spare_readings(table, readings):
    """The set of the places of the READINGS without each of which, alone, the same SAMENESSES fit."""
    found = _fitting(table, readings)
    every = frozen(readings)
    return tuple([place for place in range(len(every))
                  if all_that_fit(table, every[:place] + every[place + 1:]) == found])
