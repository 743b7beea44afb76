"""Probes: ROWS that tell by which SAMENESS they are done, with as few gets as can be."""

from itertools import combinations

from aliasrows.basics import frozen, is_part, is_set_of_strings
from aliasrows.errors import CanNot, Unfit
from aliasrows.rows import gets_of, is_row, outcome
from aliasrows.samenesses import all_samenesses, homes, is_sameness
from aliasrows.tables import lumps, names_of, open_pairs


def told_by(table, row, sameness):
    """What the ROW tells by the SAMENESS: the first half of its OUTCOME."""
    return outcome(table, row, sameness)[0]


def told_counts(table, row, ways):
    """The ascending tuple of the pairs (told, number): by just number of these SAMENESSES the ROW tells this."""
    counts = {}
    for sameness in ways:
        told = told_by(table, row, sameness)
        counts[told] = counts.get(told, 0) + 1
    return tuple(sorted(counts.items()))


def tells_all(table, row):
    """Whether the ROW tells unlike things by any two unlike SAMENESSES."""
    return alike_told(table, row) is None


def how_many_told(table, row):
    """How many unlike things the ROW tells by all SAMENESSES."""
    return len(told_parts(table, row))


def told_parts(table, row):
    """The ascending tuple of the pairs (told, number): by just number SAMENESSES the ROW tells this."""
    return told_counts(table, row, all_samenesses(table))


def alike_told(table, row):
    """A pair of unlike SAMENESSES by which the ROW tells the same; None if there is none."""
    firsts = {}
    for sameness in all_samenesses(table):
        first = firsts.setdefault(told_by(table, row, sameness), sameness)
        if first != sameness:
            return (first, sameness)
    return None


def is_alike_told(table, row, thing):
    """Whether thing is a pair of unlike SAMENESSES by which the ROW tells the same."""
    if not (isinstance(thing, tuple) and len(thing) == 2 and all([is_sameness(table, part) for part in thing])):
        return False
    one, other = thing
    return one != other and told_by(table, row, one) == told_by(table, row, other)


def is_cover(table, thing):
    """Whether thing is a COVER."""
    return is_set_of_strings(thing) and is_part(thing, names_of(table)) and _covers(table, thing)


def _covers(table, some):
    """Whether, of any two lumps that may be one, a name of one of them at least is among some names."""
    home = homes(lumps(table))
    held = [home[name] for name in some]
    return all([home[one] in held or home[other] in held for one, other in open_pairs(table)])


def _least_covers(table):
    """The ascending list of the COVERS with as few names as can be."""
    names = list(names_of(table))
    covers = [some for many in range(len(names) + 1) for some in combinations(names, many) if _covers(table, some)]
    return [some for some in covers if len(some) == len(covers[0])]


def fewest_gets(table):
    """How many gets a ROW that tells all has at the least."""
    return len(least_cover(table))


def least_cover(table):
    """The least of the COVERS with as few names as can be."""
    return _least_covers(table)[0]


def how_many_covers(table):
    """How many COVERS with as few names as can be there are."""
    return len(_least_covers(table))


def probe_row(table):
    """A ROW that tells all, with as few gets as can be, and with one put for each lump."""
    cover = least_cover(table)
    others = [lump[0] for lump in lumps(table) if not any([name in lump for name in cover])]
    # No two of the others can be one: each get tells which one is in its cell, if one is, or the last of the COVER.
    puts = [("put", name, number) for number, name in enumerate([*cover, *others])]
    return tuple(puts + [("get", name, name) for name in cover])


def is_probe(table, thing):
    """Whether thing is a ROW that tells all, with as few gets as can be."""
    if not is_row(table, thing) or len(gets_of(thing)) != fewest_gets(table):
        return False
    return tells_all(table, _told_deeds(thing))


def _told_deeds(row):
    """The ROW with no puts but the last one of each name ahead of each get: it tells the same."""
    # A thing may have any number of puts; those that are left out would be done by each SAMENESS anew.
    deeds, latest = [], {}
    for deed in row:
        if deed[0] == "put":
            latest.pop(deed[1], None)
            latest[deed[1]] = deed
        else:
            deeds = [*deeds, *list(latest.values()), deed]
            latest = {}
    return tuple(deeds)


def sameness_by(table, row, told):
    """The one SAMENESS by which the ROW tells just this."""
    wanted = frozen(told)
    found = [sameness for sameness in all_samenesses(table) if told_by(table, row, sameness) == wanted]
    if found == []:
        raise CanNot()
    if len(found) > 1:
        raise Unfit()
    return found[0]


def told_back(table, asker):
    """The SAMENESS by which the asker does the ROWS it is handed."""
    row = probe_row(table)
    return sameness_by(table, row, asker(row))
