"""Two ROWS beside one another: what they do alike, and what tells them apart."""

from aliasrows.rows import is_row, outcome, row_behind, spots_of, values_by
from aliasrows.samenesses import all_samenesses, is_sameness, little_joined
from aliasrows.tables import lumps, names_of


def _unlike_by(table, row, second, sameness):
    """Whether the OUTCOMES are unlike by this SAMENESS."""
    return outcome(table, row, sameness) != outcome(table, second, sameness)


def same_rows(table, row, second):
    """Whether both ROWS do the same."""
    return parting(table, row, second) is None


def parting(table, row, second):
    """A SAMENESS with as many cells as can be by which the OUTCOMES are unlike; None if both do the same."""
    # ROWS that are unlike by any SAMENESS are so by one of these, and by none with more cells than it has:
    # what one spot or name shows hangs on its own lumps and on those of the two puts seen there.
    for sameness in little_joined(table):
        if _unlike_by(table, row, second, sameness):
            return sameness
    return None


def is_parting(table, row, second, thing):
    """Whether thing is a SAMENESS by which the OUTCOMES are unlike."""
    return is_sameness(table, thing) and _unlike_by(table, row, second, thing)


def partings(table, row, second):
    """The ascending list of the SAMENESSES by which the OUTCOMES are unlike."""
    return [sameness for sameness in all_samenesses(table) if _unlike_by(table, row, second, sameness)]


def fewest_joined(table, row, second):
    """By how many cells fewer than there are lumps the OUTCOMES can be unlike; None if both do the same."""
    found = parting(table, row, second)
    return None if found is None else len(lumps(table)) - len(found)


def _agreements(table, row, second, part):
    """For each spot (part 0) or name (part 1) of both, by each SAMENESS whether both have the same value there."""
    found = {}
    for sameness in all_samenesses(table):
        values, others = values_by(row, sameness)[part], values_by(second, sameness)[part]
        for key in values:
            if key in others:
                found.setdefault(key, []).append(values[key] == others[key])
    return found


def _alike(agreements):
    """The set of the keys with the same value by all SAMENESSES."""
    return tuple(sorted([key for key in agreements if all(agreements[key])]))


def _unlike(agreements):
    """The set of the keys with the same value by no SAMENESS."""
    return tuple(sorted([key for key in agreements if not any(agreements[key])]))


def alike_spots(table, row, second):
    """The set of the spots of both at which they have the same value by all SAMENESSES."""
    return _alike(_agreements(table, row, second, 0))


def alike_names(table, row, second):
    """The set of the names at which they have the same value by all SAMENESSES."""
    return _alike(_agreements(table, row, second, 1))


def unlike_spots(table, row, second):
    """The set of the spots of both at which they have the same value by no SAMENESS."""
    return _unlike(_agreements(table, row, second, 0))


def unlike_names(table, row, second):
    """The set of the names at which they have the same value by no SAMENESS."""
    return _unlike(_agreements(table, row, second, 1))


def tells_as_much(table, row, second):
    """Whether SAMENESSES with one OUTCOME of row always have one of second, too."""
    return untold_pair(table, row, second) is None


def untold_pair(table, row, second):
    """An ascending pair of SAMENESSES that second tells apart and row does not; None if there is none."""
    firsts = {}
    for sameness in all_samenesses(table):
        # Those with one OUTCOME of row all agree on second exactly if each agrees with the first of them.
        first = firsts.setdefault(outcome(table, row, sameness), sameness)
        if outcome(table, second, first) != outcome(table, second, sameness):
            return (first, sameness)
    return None


def is_untold_pair(table, row, second, thing):
    """Whether thing is an ascending pair of SAMENESSES that second tells apart and row does not."""
    if not (isinstance(thing, tuple) and len(thing) == 2 and all([is_sameness(table, part) for part in thing])):
        return False
    first, last = thing
    if not first < last or outcome(table, row, first) != outcome(table, row, last):
        return False
    return outcome(table, second, first) != outcome(table, second, last)


def same_whatever(table, row, second):
    """Whether both ROWS do the same whatever lies there."""
    return parting_ahead(table, row, second) is None


def parting_ahead(table, row, second):
    """A ROW without their spots ahead of which both do not do the same; None if there is none."""
    ahead = _fresh_puts(table, row, second)
    return ahead if _part_behind(table, ahead, row, second) else None


def _fresh_puts(table, row, second):
    """The ROW that puts one number for each name, all of these unlike, none of them in row or second."""
    names = names_of(table)
    used = [deed[2] for deed in [*row, *second] if deed[0] == "put"]
    fresh = [number for number in range(len(names) + len(used)) if number not in used]
    return tuple([("put", name, number) for name, number in zip(names, fresh)])


def _part_behind(table, ahead, row, second):
    """Whether both ROWS do not do the same behind the ROW ahead."""
    return not same_rows(table, row_behind(ahead, row), row_behind(ahead, second))


def is_parting_ahead(table, row, second, thing):
    """Whether thing is a ROW without their spots ahead of which both do not do the same."""
    if not is_row(table, thing):
        return False
    taken = spots_of(row) + spots_of(second)
    if any([spot in taken for spot in spots_of(thing)]):
        return False
    return _part_behind(table, _last_puts(thing), row, second)


def _last_puts(row):
    """The ROW of the last put of each name: what lies in the cells behind it is what lies there behind row."""
    # A thing may have any number of DEEDS; those that are left out would be done by each SAMENESS anew.
    latest = {deed[1]: place for place, deed in enumerate(row) if deed[0] == "put"}
    return tuple([row[place] for place in sorted(latest.values())])
