"""DEEDS that pass: exchanges of neighbours, ROWS that are alike by them, and STEPS."""

from itertools import combinations

from aliasrows.basics import frozen, is_ascending, is_number, set_of, swap_way, swapped
from aliasrows.beside import same_rows
from aliasrows.errors import CanNot, NoNumber, Unfit
from aliasrows.rows import is_row
from aliasrows.samenesses import homes
from aliasrows.tables import surely_apart


def can_pass(table, deed, second):
    """Whether both DEEDS pass."""
    # Two gets pass whatever they have, two puts of one number, too.
    if deed[0] == second[0] and (deed[0] == "get" or deed[2] == second[2]):
        return True
    return surely_apart(table, deed[1], second[1])


def _check_neighbours(row, place):
    """Raise NoNumber if the ROW has no such place, and CanNot if it has none behind it."""
    if not 0 <= place < len(row):
        raise NoNumber(place)
    if place + 1 == len(row):
        raise CanNot()


def exchanged(table, row, place):
    """The ROW with the DEED at this place and the one behind it exchanged, if they pass."""
    _check_neighbours(row, place)
    if not can_pass(table, row[place], row[place + 1]):
        raise CanNot()
    return swapped(frozen(row), place)


def passing_places(table, row):
    """The set of the places whose DEED and the one behind it pass."""
    return tuple([place for place in range(len(row) - 1) if can_pass(table, row[place], row[place + 1])])


def keeps(table, row, place):
    """Whether the ROW with the DEED at this place and the one behind it exchanged does the same."""
    _check_neighbours(row, place)
    return same_rows(table, row, swapped(frozen(row), place))


def tied_pairs(table, row):
    """The list of the pairs (lesser, greater) of places whose DEEDS do not pass."""
    pairs = list(combinations(range(len(row)), 2))
    return [(lesser, greater) for lesser, greater in pairs if not can_pass(table, row[lesser], row[greater])]


def alike_ranks(table, one, other):
    """For each place of one where other has its DEED, of equal ones the first for the first; None if not alike."""
    one, other = frozen(one), frozen(other)
    if sorted(one) != sorted(other):
        return None
    places = {}
    for place, deed in enumerate(other):
        places.setdefault(deed, []).append(place)
    ranks = ()
    for deed in one:
        ranks = (*ranks, places[deed].pop(0))
    if not all([ranks[lesser] < ranks[greater] for lesser, greater in tied_pairs(table, one)]):
        return None
    return ranks


def are_alike(table, one, other):
    """Whether exchanges of DEEDS that pass lead from one to other."""
    return alike_ranks(table, one, other) is not None


def exchanges_between(table, one, other):
    """How few exchanges of DEEDS that pass lead from one to other; None if they are not alike."""
    way = way_between(table, one, other)
    return None if way is None else len(way) - 1


def way_between(table, one, other):
    """A tuple of as few ROWS as can be, from one to other, by exchanges of DEEDS that pass; None likewise."""
    ranks = alike_ranks(table, one, other)
    return None if ranks is None else swap_way(frozen(one), ranks)


def is_way_between(table, one, other, thing):
    """Whether thing is a tuple of as few ROWS as can be, from one to other, by exchanges of DEEDS that pass."""
    fewest = exchanges_between(table, one, other)
    if fewest is None or not (isinstance(thing, tuple) and len(thing) == fewest + 1):
        return False
    # A ROW of another length is none on the way: it may be very long, so it is sorted out first.
    if not all([isinstance(part, tuple) and len(part) == len(one) for part in thing]):
        return False
    if not all([is_row(table, part) for part in thing]) or thing[0] != frozen(one) or thing[-1] != frozen(other):
        return False
    return all([_is_exchange(table, row, following) for row, following in zip(thing, thing[1:])])


def _is_exchange(table, row, following):
    """Whether one exchange of DEEDS that pass leads from the one ROW to the other one."""
    return following in [swapped(row, place) for place in passing_places(table, row)]


def held_pairs(table, row):
    """The set of the pairs (lesser, greater) of places, the greater one held behind the lesser one."""
    tied = tied_pairs(table, row)
    behind = {}
    for place in reversed(range(len(row))):
        nearest = [greater for lesser, greater in tied if lesser == place]
        behind[place] = set_of(nearest + [last for greater in nearest for last in behind[greater]])
    return tuple([(place, greater) for place in range(len(row)) for greater in behind[place]])


def longest_held(table, row):
    """Of the longest tuples of places, each held behind the one ahead, the least."""
    held = held_pairs(table, row)
    chains = {}
    for place in reversed(range(len(row))):
        chains[place] = (place, *_longest([chains[greater] for lesser, greater in held if lesser == place]))
    return _longest(list(chains.values()))


def _longest(chains):
    """Of the longest of the chains the least; () if there is none."""
    return min(chains, key=lambda chain: (-len(chain), chain), default=())


def deed_places(table, row, deed):
    """The set of the places that have this DEED in some ROW that is alike."""
    deeds, sought = frozen(row), frozen(deed)
    if sought not in deeds:
        raise Unfit()
    held = held_pairs(table, deeds)
    found = []
    for place, other in enumerate(deeds):
        if other == sought:
            ahead = len([lesser for lesser, greater in held if greater == place])
            behind = len([greater for lesser, greater in held if lesser == place])
            found = found + list(range(ahead, len(deeds) - behind))
    return set_of(found)


def is_steps(table, row, thing):
    """Whether thing is STEPS of the ROW, however many."""
    if not (isinstance(thing, tuple) and all([_is_step(part) for part in thing])):
        return False
    if sorted([place for step in thing for place in step]) != list(range(len(row))):
        return False
    step_of = homes(thing)
    return all([step_of[lesser] < step_of[greater] for lesser, greater in tied_pairs(table, row)])


def _is_step(thing):
    """Whether thing is a set of one or more numbers."""
    if not (isinstance(thing, tuple) and len(thing) > 0):
        return False
    return all([is_number(part) for part in thing]) and is_ascending(thing)


def fewest_steps(table, row):
    """How many STEPS the ROW has at the least."""
    return len(first_steps(table, row))


def first_steps(table, row):
    """The STEPS in which each place is in as early a set as can be."""
    return _steps_by(_levels(len(row), tied_pairs(table, row)))


def last_steps(table, row):
    """The fewest STEPS in which each place is in as late a set as can be."""
    last = len(row) - 1
    # Seen from the end, as late as can be is as early as can be.
    levels = _levels(len(row), [(last - greater, last - lesser) for lesser, greater in tied_pairs(table, row)])
    return _steps_by([max(levels) - level for level in reversed(levels)])


def _levels(many, tied):
    """For each of so many places how many others are in a longest row of places that leads to it."""
    levels = []
    for place in range(many):
        levels.append(max([levels[lesser] + 1 for lesser, greater in tied if greater == place], default=0))
    return levels


def _steps_by(levels):
    """The tuple of the sets of the places of each level."""
    return tuple([tuple([place for place, level in enumerate(levels) if level == step])
                  for step in range(max(levels, default=-1) + 1)])
