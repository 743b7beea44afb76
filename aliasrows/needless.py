"""Needless DEEDS: which of them can go, alone and together."""

from aliasrows.basics import is_within_another, ordered_pair, set_of
from aliasrows.beside import is_parting, parting, same_rows
from aliasrows.rows import gets_of, outcome, spots_of, values_by, without_places
from aliasrows.samenesses import all_samenesses, little_joined


def can_go(table, row, places):
    """Whether the DEEDS at these places can go."""
    return same_rows(table, row, without_places(row, places))


def is_needless(table, row, place):
    """Whether the DEED at this place alone can go."""
    return can_go(table, row, (place,))


def needless_places(table, row):
    """The set of the places of the DEEDS each of which alone can go."""
    return tuple([place for place in range(len(row)) if is_needless(table, row, place)])


def needed_by(table, row, place):
    """A SAMENESS by which the ROW needs the DEED at this place; None if it is needless."""
    return parting(table, row, without_places(row, (place,)))


def is_needed_by(table, row, place, thing):
    """Whether thing is a SAMENESS by which the ROW needs the DEED at this place."""
    return is_parting(table, row, without_places(row, (place,)), thing)


def all_that_go(table, row):
    """The ascending list of all sets of places that can go."""
    wanted = [(sameness, outcome(table, row, sameness)) for sameness in little_joined(table)]
    found = [()]
    for place in range(len(row)):
        # Of places that can go together the first one can go alone, so one behind another all but the last can.
        grown = [(*places, place) for places in found]
        found = found + [places for places in grown if _has_outcomes(table, without_places(row, places), wanted)]
    return sorted(found)


def _has_outcomes(table, row, wanted):
    """Whether the ROW has the wanted OUTCOME by the SAMENESS of each pair."""
    for sameness, pair in wanted:
        if outcome(table, row, sameness) != pair:
            return False
    return True


def full_sets(table, row):
    """The ascending list of the sets of places that can go and lie within no other one of them."""
    going = all_that_go(table, row)
    return [places for places in going if not is_within_another(places, going)]


def always_stay(table, row):
    """The set of the places that are in no set of places that can go."""
    gone = [place for places in all_that_go(table, row) for place in places]
    return tuple([place for place in range(len(row)) if place not in gone])


def most_gone(table, row):
    """The set of the most places that can go, of several the least."""
    return min(all_that_go(table, row), key=lambda places: (-len(places), places))


def least_rest(table, row):
    """The ROW without the most places that can go."""
    return without_places(row, most_gone(table, row))


def dearest_gone(table, row, prices):
    """The set of places that can go whose prices come to the most, of several the one with fewest places."""
    return min(all_that_go(table, row), key=lambda places: (-_price(prices, places), len(places), places))


def _price(prices, places):
    """What the prices of these places come to."""
    return sum([prices[place] for place in places])


def all_rests(table, row):
    """The ascending list of the ROWS that are left without some set of places that can go."""
    return list(set_of([without_places(row, places) for places in all_that_go(table, row)]))


def gone_by_turns(table, row, turns):
    """The set of the places that go, one behind another, each if it can go together with those gone so far."""
    gone = ()
    for place in turns:
        # Those gone are places of the ROW: can_go raises NoNumber for none but this one.
        grown = tuple(sorted([*gone, place]))
        if can_go(table, row, grown):
            gone = grown
    return gone


def twin_spots(table, row):
    """The set of the pairs of spots at which the same number, or none, is told by each SAMENESS."""
    spots = spots_of(row)
    ways = [values_by(row, sameness)[0] for sameness in all_samenesses(table)]
    pairs = [(one, other) for one in spots for other in spots if one < other]
    return tuple([(one, other) for one, other in pairs if all([told[one] == told[other] for told in ways])])


def spare_gets(table, row):
    """The set of the places of the gets that have a get ahead of them with a twin spot."""
    twins = twin_spots(table, row)
    gets = gets_of(row)
    pairs = [(ahead, place) for ahead in gets for place in gets if ahead < place]
    return set_of([place for ahead, place in pairs if ordered_pair(row[ahead][2], row[place][2]) in twins])
