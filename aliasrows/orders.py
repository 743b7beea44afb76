"""ORDERS of puts: which of them do the same, and how many do unlike things."""

from aliasrows.basics import frozen, is_ascending, is_part, is_set_of_strings, lined_up, one_more_lined
from aliasrows.basics import ordered_pair, set_of, swap_way, swapped
from aliasrows.beside import is_parting, parting
from aliasrows.errors import NoNumber, Unfit
from aliasrows.samenesses import homes
from aliasrows.tables import check_names, lumps, names_of, open_pairs


def is_order(table, thing):
    """Whether thing is an ORDER."""
    return _is_order(names_of(table), thing)


def _is_order(names, thing):
    """Whether thing is a tuple of these names, none twice."""
    return isinstance(thing, tuple) and is_part(thing, names) and len(set(thing)) == len(thing)


def row_of_order(table, order):
    """The ROW that puts to each name of the ORDER its place among the names of the TABLE."""
    names = names_of(table)
    check_names(names, order)
    return tuple([("put", name, names.index(name)) for name in order])


def pointing_of(table, order):
    """The POINTING of the ORDER."""
    check_names(names_of(table), order)
    return _pointing(homes(lumps(table)), open_pairs(table), order)


def _pointing(home, loose, order):
    """The POINTING of the ORDER: home tells the lump of each name, loose the pairs of lumps that may be one."""
    latest = {home[name]: name for name in order}
    lasts = [name for name in order if latest[home[name]] == name]
    pairs = [(one, other) for place, one in enumerate(lasts) for other in lasts[place + 1:]]
    arrows = [pair for pair in pairs if ordered_pair(pair[0], pair[1]) in loose]
    return (tuple(sorted(lasts)), tuple(sorted(arrows)))


def is_pointing(table, thing):
    """Whether thing is a POINTING of the TABLE."""
    if not (isinstance(thing, tuple) and len(thing) == 2):
        return False
    lasts, arrows = thing
    if not (is_set_of_strings(lasts) and is_part(lasts, names_of(table))):
        return False
    home = homes(lumps(table))
    if len(set([home[name] for name in lasts])) < len(lasts) or not _is_set_of_arrows(arrows, lasts):
        return False
    pointed = sorted([ordered_pair(ahead, behind) for ahead, behind in arrows])
    if pointed != [pair for pair in open_pairs(table) if is_part(pair, lasts)]:
        return False
    return len(lined_up(lasts, arrows)) == len(lasts)


def _is_set_of_arrows(thing, lasts):
    """Whether thing is a set of pairs of lasts."""
    if not isinstance(thing, tuple):
        return False
    fit = all([isinstance(part, tuple) and len(part) == 2 and is_part(part, lasts) for part in thing])
    return fit and is_ascending(thing)


def orders_same(table, one, other):
    """Whether both ORDERS do the same."""
    return pointing_of(table, one) == pointing_of(table, other)


def parting_sameness(table, one, other):
    """A SAMENESS by which the ROWS of both have unlike OUTCOMES; None if they do the same."""
    return parting(table, row_of_order(table, one), row_of_order(table, other))


def is_parting_sameness(table, one, other, thing):
    """Whether thing is a SAMENESS by which the ROWS of both have unlike OUTCOMES."""
    return is_parting(table, row_of_order(table, one), row_of_order(table, other), thing)


def all_pointings(table, some):
    """The ascending list of the POINTINGS of the ORDERS of some."""
    check_names(names_of(table), some)
    home, loose = homes(lumps(table)), open_pairs(table)
    # Orders of one name for each lump show all of them: what stands ahead of the last one does not count.
    orders = [()]
    for members in _by_lumps(home, some):
        orders = [grown for order in orders for grown in _with_one_of(order, members)]
    return list(set_of([_pointing(home, loose, order) for order in orders]))


def _by_lumps(home, some):
    """For each lump with a name of some the list of these."""
    found = {}
    for name in some:
        found.setdefault(home[name], []).append(name)
    return list(found.values())


def _with_one_of(order, members):
    """The list of the ways to set one of the members ahead of, among or behind the names of the order."""
    places = range(len(order) + 1)
    return [(*order[:place], name, *order[place:]) for name in members for place in places]


def how_many_pointings(table, some):
    """How many POINTINGS the ORDERS of some have."""
    return len(all_pointings(table, some))


def nth_pointing(table, some, number):
    """The POINTING with this number."""
    found = all_pointings(table, some)
    if not 0 <= number < len(found):
        raise NoNumber(number)
    return found[number]


def number_of_pointing(table, some, pointing):
    """The number of the POINTING; None if no ORDER of some has it."""
    found = all_pointings(table, some)
    wanted = frozen(pointing)
    return found.index(wanted) if wanted in found else None


def _needs(table, some, pointing):
    """The pairs (ahead, behind) that all ORDERS of some with this POINTING keep, and no others; None if none has it."""
    check_names(names_of(table), some)
    lasts, arrows = pointing
    home = homes(lumps(table))
    last_of = {home[name]: name for name in lasts}
    if not is_part(lasts, some) or not all([home[name] in last_of for name in some]):
        return None
    return [*arrows, *[(name, last_of[home[name]]) for name in some if name not in lasts]]


def least_order(table, some, pointing):
    """The least ORDER of some that has this POINTING; None if there is none."""
    needs = _needs(table, some, pointing)
    return None if needs is None else lined_up(some, needs)


def how_many_orders(table, some, pointing):
    """How many ORDERS of some have this POINTING."""
    needs = _needs(table, some, pointing)
    if needs is None:
        return 0
    counts = {(): 1}
    for _ in some:
        counts = one_more_lined(counts, some, needs)
    return sum(list(counts.values()))


def _check_turns(table, one, other):
    """Raise NoName for what is no name, and Unfit if both have not the same names."""
    names = names_of(table)
    check_names(names, one)
    check_names(names, other)
    if sorted(one) != sorted(other):
        raise Unfit()


def fewest_turns(table, one, other):
    """How few exchanges of neighbours lead from one to other, all between doing the same; None if both do not."""
    way = turn_way(table, one, other)
    return None if way is None else len(way) - 1


def turn_way(table, one, other):
    """A tuple of as few ORDERS as can be, from one to other, by exchanges of neighbours; None likewise."""
    _check_turns(table, one, other)
    if not orders_same(table, one, other):
        return None
    rank = {name: place for place, name in enumerate(other)}
    return swap_way(frozen(one), tuple([rank[name] for name in one]))


def is_turn_way(table, one, other, thing):
    """Whether thing is a tuple of ORDERS from one to other, by exchanges of neighbours, all doing the same."""
    _check_turns(table, one, other)
    names = names_of(table)
    if not (isinstance(thing, tuple) and len(thing) > 0 and all([_is_order(names, part) for part in thing])):
        return False
    if thing[0] != frozen(one) or thing[-1] != frozen(other):
        return False
    home, loose = homes(lumps(table)), open_pairs(table)
    wanted = _pointing(home, loose, one)
    same = all([_pointing(home, loose, order) == wanted for order in thing])
    return same and all([_is_turn(order, following) for order, following in zip(thing, thing[1:])])


def _is_turn(order, following):
    """Whether an exchange of neighbours leads from the one ORDER to the other one."""
    return following in [swapped(order, place) for place in range(len(order) - 1)]


def free_places(table, order):
    """The set of the places such that the ORDER with the name there and the next one exchanged does the same."""
    wanted = pointing_of(table, order)
    home, loose = homes(lumps(table)), open_pairs(table)
    places = range(len(order) - 1)
    return tuple([place for place in places if _pointing(home, loose, swapped(order, place)) == wanted])
