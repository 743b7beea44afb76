"""SAMENESSES: the ways in which the names of a TABLE can be one."""

from itertools import combinations

from aliasrows.basics import frozen, is_ascending, is_set_of_strings, is_within_another, set_of
from aliasrows.errors import CanNot, NoNumber
from aliasrows.tables import check_names, lumps, names_of


def is_sameness(table, thing):
    """Whether thing is a SAMENESS of the TABLE."""
    names, ones, aparts = frozen(table)
    if not _is_set_of_cells(thing):
        return False
    if sorted([name for cell in thing for name in cell]) != list(names):
        return False
    home = homes(thing)
    together = all([home[one] == home[other] for one, other in ones])
    return together and all([home[one] != home[other] for one, other in aparts])


def _is_set_of_cells(thing):
    """Whether thing is an ascending tuple of ascending tuples of one or more strings."""
    if not isinstance(thing, tuple):
        return False
    return all([is_set_of_strings(cell) and len(cell) > 0 for cell in thing]) and is_ascending(thing)


def homes(sameness):
    """For each name the place of its cell."""
    return {name: place for place, cell in enumerate(sameness) for name in cell}


def _can_be_cell(some, aparts):
    """Whether no pair of aparts lies within some names, whole lumps."""
    return not any([one in some and other in some for one, other in aparts])


def _one_cell(cells):
    """The names of all cells as one cell."""
    return tuple(sorted([name for cell in cells for name in cell]))


def finest(table):
    """The SAMENESS that lies within all others."""
    return lumps(table)


def coarsest(table):
    """The ascending list of the SAMENESSES that lie within no other one."""
    aparts = frozen(table)[2]
    return [sameness for sameness in all_samenesses(table) if not _lies_within_another(sameness, aparts)]


def _lies_within_another(sameness, aparts):
    """Whether two cells of the SAMENESS can be put together."""
    pairs = [(one, other) for one in sameness for other in sameness if one < other]
    return any([_can_be_cell(_one_cell(pair), aparts) for pair in pairs])


def all_samenesses(table):
    """The ascending list of all SAMENESSES."""
    aparts = frozen(table)[2]
    begun = [()]
    for lump in lumps(table):
        begun = [grown for cells in begun for grown in _with_lump(cells, lump, aparts)]
    # The cells of each are in order: a lump that comes later begins later.
    return sorted(begun)


def _with_lump(cells, lump, aparts):
    """The list of the ways to lay one lump more into one of the cells, or beside them."""
    grown = [(*cells, lump)]
    for place, cell in enumerate(cells):
        joined = _one_cell((cell, lump))
        if _can_be_cell(joined, aparts):
            grown.append((*cells[:place], joined, *cells[place + 1:]))
    return grown


def how_many_samenesses(table):
    """How many SAMENESSES there are."""
    return len(all_samenesses(table))


def nth_sameness(table, number):
    """The SAMENESS with this number."""
    found = all_samenesses(table)
    if not 0 <= number < len(found):
        raise NoNumber(number)
    return found[number]


def number_of_sameness(table, sameness):
    """The number of this SAMENESS."""
    return all_samenesses(table).index(frozen(sameness))


def how_many_with(table, many):
    """How many SAMENESSES have so many cells."""
    return len([sameness for sameness in all_samenesses(table) if len(sameness) == many])


def fewest_cells(table):
    """The least number of cells of a SAMENESS."""
    return min([len(sameness) for sameness in all_samenesses(table)])


def a_fewest(table):
    """The least SAMENESS of those with the fewest cells."""
    fewest = fewest_cells(table)
    return [sameness for sameness in all_samenesses(table) if len(sameness) == fewest][0]


def cell_of(table, sameness, name):
    """The cell with this name."""
    check_names(names_of(table), (name,))
    return [cell for cell in frozen(sameness) if name in cell][0]


def are_one(table, sameness, one, other):
    """Whether both are in one cell."""
    check_names(names_of(table), (one, other))
    home = homes(sameness)
    return home[one] == home[other]


def joined_by(table, some):
    """The SAMENESS with all of some in one cell, all other cells being lumps."""
    joined = _joined(frozen(table), frozen(some))
    if joined is None:
        raise CanNot()
    return joined


def can_join(table, some):
    """Whether joined_by tells a SAMENESS."""
    return _joined(frozen(table), frozen(some)) is not None


def _joined(table, some):
    """What joined_by tells; None if there is none."""
    check_names(table[0], some)
    parts = lumps(table)
    touched = [lump for lump in parts if _meets(lump, some)]
    if touched == []:
        return parts
    joined = _one_cell(touched)
    if not _can_be_cell(joined, table[2]):
        return None
    return tuple(sorted([joined] + [lump for lump in parts if not _meets(lump, some)]))


def _meets(some, others):
    """Whether one of some is among the others."""
    return any([one in others for one in some])


def little_joined(table):
    """The list of the SAMENESSES with two or three lumps in one cell, or none, all other cells being lumps.

    Those with more cells come first.
    """
    aparts = frozen(table)[2]
    parts = list(lumps(table))
    found = [tuple(parts)]
    for many in range(2, 4):
        for some in combinations(parts, many):
            joined = _one_cell(some)
            if _can_be_cell(joined, aparts):
                found.append(tuple(sorted([joined] + [lump for lump in parts if lump not in some])))
    return found


def great_joins(table):
    """The ascending list of the greatest sets of names that some SAMENESS has in one cell."""
    cells = set_of([cell for sameness in all_samenesses(table) for cell in sameness])
    return [cell for cell in cells if not is_within_another(cell, cells)]


def lies_within(first, second):
    """Whether each cell of first lies within a cell of second."""
    home = homes(second)
    return all([len(set([home[name] for name in cell])) == 1 for cell in first])


def met(first, second):
    """The set of the cells in which both meet."""
    shared = [tuple([name for name in cell if name in other]) for cell in frozen(first) for other in second]
    return tuple(sorted([cell for cell in shared if cell != ()]))


def put_as_one(table, first, second):
    """The finest SAMENESS within which both lie; None if there is none."""
    cells = list(frozen(first))
    for part in frozen(second):
        touched = [cell for cell in cells if _meets(cell, part)]
        cells = [_one_cell(touched)] + [cell for cell in cells if not _meets(cell, part)]
    aparts = frozen(table)[2]
    if not all([_can_be_cell(cell, aparts) for cell in cells]):
        return None
    return tuple(sorted(cells))


def between(table, first, second):
    """The ascending list of the SAMENESSES within which first lies and which lie within second."""
    found = all_samenesses(table)
    return [sameness for sameness in found if lies_within(first, sameness) and lies_within(sameness, second)]
