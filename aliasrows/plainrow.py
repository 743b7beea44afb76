"""Plain ROWS: the least of the ROWS that are alike, the ROWS numbered, and beginnings."""

from itertools import combinations

from aliasrows.basics import free_next, frozen, lined_up, one_more_lined, with_member
from aliasrows.errors import NoNumber
from aliasrows.moved import alike_ranks, can_pass, tied_pairs
from aliasrows.rows import is_row, row_behind


def _by_deeds(deeds):
    """The list of the places, ascending by their DEEDS."""
    return sorted(range(len(deeds)), key=lambda place: (deeds[place], place))


def _arrows(table, deeds):
    """The pairs of places whose DEEDS keep their order, whatever passes; equal ones, too."""
    # Equal DEEDS that changed places would make one ROW twice.
    pairs = list(combinations(range(len(deeds)), 2))
    equal = [(lesser, greater) for lesser, greater in pairs if deeds[lesser] == deeds[greater]]
    return tied_pairs(table, deeds) + equal


def _deeds_at(deeds, places):
    """The ROW of the DEEDS at these places, in their order."""
    return tuple([deeds[place] for place in places])


def plain_row(table, row):
    """The least of the ROWS that are alike to the ROW."""
    deeds = frozen(row)
    return _deeds_at(deeds, lined_up(_by_deeds(deeds), _arrows(table, deeds)))


def is_plain(table, row):
    """Whether the ROW is its own plain ROW."""
    return plain_row(table, row) == frozen(row)


def _beginnings(places, arrows):
    """For each number of places a dict: for each set of so many that can stand first in how many orders they can."""
    levels = [{(): 1}]
    for _ in places:
        levels.append(one_more_lined(levels[-1], places, arrows))
    return levels


def _ends(places, arrows):
    """For each set of places that can stand first in how many orders the others can stand behind it."""
    ways = {}
    for level in reversed(_beginnings(places, arrows)):
        for lined in level:
            onward = [ways[with_member(lined, place)] for place in free_next(lined, places, arrows)]
            ways[lined] = sum(onward) if len(lined) < len(places) else 1
    return ways


def how_many_alike(table, row):
    """How many ROWS are alike to the ROW, it among them."""
    deeds = frozen(row)
    return _ends(_by_deeds(deeds), _arrows(table, deeds))[()]


def nth_alike(table, row, number):
    """The ROW with this number among the ROWS that are alike, ascending."""
    deeds = frozen(row)
    places, arrows = _by_deeds(deeds), _arrows(table, deeds)
    ways = _ends(places, arrows)
    if not 0 <= number < ways[()]:
        raise NoNumber(number)
    lined = ()
    for _ in deeds:
        place, number = _chosen(ways, lined, free_next(lined, places, arrows), number)
        lined = (*lined, place)
    return _deeds_at(deeds, lined)


def _chosen(ways, lined, free, number):
    """The free place that stands next in the way with this number, and its number among the ways that go on so."""
    for place in free[:-1]:
        many = ways[with_member(lined, place)]
        if number < many:
            return place, number
        number -= many
    return free[-1], number


def number_alike(table, row, other):
    """The number of other among the ROWS that are alike to row; None if it is none of them."""
    ranks = alike_ranks(table, other, row)
    if ranks is None:
        return None
    deeds = frozen(row)
    places, arrows = _by_deeds(deeds), _arrows(table, deeds)
    ways = _ends(places, arrows)
    lined, number = (), 0
    for rank in ranks:
        lesser = [place for place in free_next(lined, places, arrows) if deeds[place] < deeds[rank]]
        number += sum([ways[with_member(lined, place)] for place in lesser])
        lined = (*lined, rank)
    return number


def alike_rows(table, row):
    """The ascending list of the ROWS that are alike to the ROW."""
    deeds = frozen(row)
    places, arrows = _by_deeds(deeds), _arrows(table, deeds)
    lines = [()]
    for _ in deeds:
        lines = [(*lined, place) for lined in lines for place in free_next(lined, places, arrows)]
    return [_deeds_at(deeds, lined) for lined in lines]


def how_many_at(table, row, deed, place):
    """How many of the ROWS that are alike to the ROW have this DEED at this place."""
    deeds, sought = frozen(row), frozen(deed)
    if not 0 <= place < len(deeds):
        return 0
    places, arrows = _by_deeds(deeds), _arrows(table, deeds)
    ways = _ends(places, arrows)
    counts = _beginnings(places, arrows)[place]
    return sum([counts[lined] * ways[with_member(lined, here)] for lined in counts
                for here in free_next(lined, places, arrows) if deeds[here] == sought])


def how_many_forms(table, deeds):
    """How many FORMS of the DEEDS there are."""
    # By a way to say of each two DEEDS that do not pass which one is first, those that none is ahead of all pass.
    # Of each set of these the ways for the others are added or taken away by turns: so each way counts just once.
    tied = tied_pairs(table, frozen(deeds))
    places = list(range(len(deeds)))
    ways = {(): 1}
    for many in range(1, len(places) + 1):
        for some in combinations(places, many):
            ways[some] = sum([_by_turns(len(firsts), ways[_without(some, firsts)]) for firsts in _untied(some, tied)])
    return ways[tuple(places)]


def _untied(some, tied):
    """The list of the sets of one or more of some places no two of which are tied."""
    found = [()]
    for place in some:
        found = found + [(*firsts, place) for firsts in found if all([(one, place) not in tied for one in firsts])]
    return found[1:]


def _without(some, others):
    """Those of some that are not among the others."""
    return tuple([one for one in some if one not in others])


def _by_turns(many, ways):
    """So many ways, turned below 0 if many is even."""
    return ways if many & 1 == 1 else -ways


def forms(table, deeds):
    """The ascending list of the FORMS of the DEEDS."""
    every = frozen(deeds)
    found = [()]
    for _ in every:
        found = [(*row, deed) for row in found for deed in every if deed not in row and _stays_plain(table, row, deed)]
    return found


def _stays_plain(table, row, deed):
    """Whether a plain ROW with this DEED more behind it is plain: no greater one ahead that it could go past to."""
    for other in reversed(row):
        if not can_pass(table, deed, other):
            return True
        if other > deed:
            return False
    return True


def is_form(table, deeds, thing):
    """Whether thing is a FORM of the DEEDS."""
    # The length is looked at first: a thing may be very long.
    if not (isinstance(thing, tuple) and len(thing) == len(deeds) and is_row(table, thing)):
        return False
    return sorted(thing) == list(frozen(deeds)) and is_plain(table, thing)


def plain_joined(table, one, other):
    """The plain ROW of the ROW that has the DEEDS of one, then those of other."""
    return plain_row(table, row_behind(one, other))


def begins_with(table, row, one):
    """Whether some ROW that is alike to row begins with the DEEDS of one."""
    return rest_behind(table, row, one) is not None


def rest_behind(table, row, one):
    """The plain ROW of what is behind the DEEDS of one in a ROW alike to row that begins so; None if none does."""
    rest = frozen(row)
    for deed in frozen(one):
        if deed not in rest:
            return None
        place = rest.index(deed)
        if not all([can_pass(table, deed, other) for other in rest[:place]]):
            return None
        rest = rest[:place] + rest[place + 1:]
    return plain_row(table, rest)


def plain_begun(table, row):
    """The ascending list of the plain ROWS of all beginnings of all ROWS that are alike to the ROW."""
    deeds = frozen(row)
    places, arrows = _by_deeds(deeds), _arrows(table, deeds)
    begun = [lined for level in _beginnings(places, arrows) for lined in level]
    # No arrow leads from a place behind a beginning into it, so all arrows may stand.
    return sorted([_deeds_at(deeds, lined_up([place for place in places if place in lined], arrows))
                   for lined in begun])


def common_beginning(table, one, other):
    """Of the plain ROWS of beginnings of both that with the most DEEDS."""
    others = {row: True for row in plain_begun(table, other)}
    return max([row for row in plain_begun(table, one) if row in others], key=len)
