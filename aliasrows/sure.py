"""What is sure of a ROW, and what can be: the puts and the values that are seen by some SAMENESS."""

from aliasrows.basics import set_of
from aliasrows.errors import NoNumber
from aliasrows.rows import check_spot, number_at, puts_of, sources, spots_of, values_by
from aliasrows.samenesses import all_samenesses, is_sameness
from aliasrows.tables import check_names, names_of


def _all_seen(table, row):
    """Two dicts: for each spot, and for each name, by each SAMENESS the place of the put seen there, or None."""
    ways = [sources(row, sameness) for sameness in all_samenesses(table)]
    at_spots = {spot: [told[spot] for told, _ in ways] for spot in spots_of(row)}
    at_names = {name: [left[name] for _, left in ways] for name in names_of(table)}
    return at_spots, at_names


def _seen_at_spot(table, row, spot):
    """By each SAMENESS the place of the put seen at this spot, or None."""
    check_spot(row, spot)
    return _all_seen(table, row)[0][spot]


def _seen_at_name(table, row, name):
    """By each SAMENESS the place of the put seen at this name, or None."""
    check_names(names_of(table), (name,))
    return _all_seen(table, row)[1][name]


def _places(seen):
    """The set of the places, None left out."""
    return set_of([place for place in seen if place is not None])


def _values(row, seen):
    """All values of the puts at these places: None at first, then the numbers, ascending."""
    values = [number_at(row, place) for place in seen]
    numbers = set_of([value for value in values if value is not None])
    return (None, *numbers) if None in values else numbers


def seen_at(table, row, spot):
    """The set of the places of the puts that are seen at this spot by some SAMENESS."""
    return _places(_seen_at_spot(table, row, spot))


def seen_left(table, row, name):
    """The set of the places of the puts that are seen at this name by some SAMENESS."""
    return _places(_seen_at_name(table, row, name))


def empty_at(table, row, spot):
    """Whether nothing is seen at this spot by some SAMENESS."""
    return None in _seen_at_spot(table, row, spot)


def empty_left(table, row, name):
    """Whether nothing is seen at this name by some SAMENESS."""
    return None in _seen_at_name(table, row, name)


def values_at(table, row, spot):
    """All values at this spot by some SAMENESS."""
    return _values(row, _seen_at_spot(table, row, spot))


def values_left(table, row, name):
    """All values at this name by some SAMENESS."""
    return _values(row, _seen_at_name(table, row, name))


def _sure(row, seen):
    """For each spot or name at which one value is seen by all SAMENESSES this value."""
    values = {key: _values(row, seen[key]) for key in seen}
    return {key: values[key][0] for key in values if len(values[key]) == 1}


def sure_spots(table, row):
    """The set of the spots at which one value is seen by all SAMENESSES."""
    return tuple(sorted(_sure(row, _all_seen(table, row)[0])))


def sure_names(table, row):
    """The set of the names at which one value is seen by all SAMENESSES."""
    return tuple(sorted(_sure(row, _all_seen(table, row)[1])))


def sure_told(table, row):
    """A pair like an OUTCOME, of what is sure to be told and to be left."""
    at_spots, at_names = _all_seen(table, row)
    return (_numbers(_sure(row, at_spots)), _numbers(_sure(row, at_names)))


def _numbers(sure):
    """The ascending tuple of the pairs (key, number) of the keys with a number."""
    return tuple(sorted([(key, sure[key]) for key in sure if sure[key] is not None]))


def _check_put(row, place):
    """Raise NoNumber if the ROW has no put at this place."""
    if place not in puts_of(row):
        raise NoNumber(place)


def spots_seeing(table, row, place):
    """The set of the spots at which the put at this place is seen by some SAMENESS."""
    _check_put(row, place)
    at_spots = _all_seen(table, row)[0]
    return tuple([spot for spot in at_spots if place in at_spots[spot]])


def names_seeing(table, row, place):
    """The set of the names at which the put at this place is seen by some SAMENESS."""
    _check_put(row, place)
    at_names = _all_seen(table, row)[1]
    return tuple([name for name in at_names if place in at_names[name]])


def never_seen(table, row):
    """The set of the places of the puts that are seen nowhere, whatever the SAMENESS."""
    at_spots, at_names = _all_seen(table, row)
    lists = list(at_spots.values()) + list(at_names.values())
    found = [place for seen in lists for place in seen]
    return tuple([place for place in puts_of(row) if place not in found])


def tellings(table, row, spot):
    """For each value at this spot the pair of it and of the number of the SAMENESSES by which it is there."""
    seen = _seen_at_spot(table, row, spot)
    values = [number_at(row, place) for place in seen]
    return tuple([(value, values.count(value)) for value in _values(row, seen)])


def how_many_tell(table, row, spot, value):
    """By how many SAMENESSES this is the value at this spot."""
    seen = _seen_at_spot(table, row, spot)
    return len([place for place in seen if number_at(row, place) == value])


def sameness_for(table, row, spot, value):
    """A SAMENESS with as many cells as can be by which this is the value at this spot; None if there is none."""
    check_spot(row, spot)
    found = [sameness for sameness in all_samenesses(table) if values_by(row, sameness)[0][spot] == value]
    return max(found, key=len, default=None)


def sameness_left(table, row, name, value):
    """A SAMENESS with as many cells as can be by which this is the value at this name; None if there is none."""
    check_names(names_of(table), (name,))
    found = [sameness for sameness in all_samenesses(table) if values_by(row, sameness)[1][name] == value]
    return max(found, key=len, default=None)


def is_sameness_for(table, row, spot, value, thing):
    """Whether thing is a SAMENESS by which this is the value at this spot."""
    check_spot(row, spot)
    return is_sameness(table, thing) and values_by(row, thing)[0][spot] == value


def is_sameness_left(table, row, name, value, thing):
    """Whether thing is a SAMENESS by which this is the value at this name."""
    check_names(names_of(table), (name,))
    return is_sameness(table, thing) and values_by(row, thing)[1][name] == value
