"""More told: FACTS, and by which of them what a get tells is sure."""

from itertools import combinations

from aliasrows.basics import frozen, is_ascending, is_part, is_set_of_strings, ordered_pair, set_of
from aliasrows.errors import Unfit
from aliasrows.rows import check_spot, outcome, told_at
from aliasrows.samenesses import all_samenesses, are_one, can_join, finest, joined_by
from aliasrows.sure import sure_spots, values_at
from aliasrows.tables import is_table, lump_of, lumps, names_of, open_pairs, same_tables


def is_fact(table, thing):
    """Whether thing is a FACT."""
    return _is_fact(names_of(table), thing)


def _is_fact(names, thing):
    """Whether thing is a FACT of two of these names."""
    if not (isinstance(thing, tuple) and len(thing) == 3 and thing[0] in ("one", "apart")):
        return False
    return is_set_of_strings(thing[1:]) and is_part(thing[1:], names)


def are_facts(table, thing):
    """Whether thing is FACTS."""
    names = names_of(table)
    if not (isinstance(thing, tuple) and all([_is_fact(names, part) for part in thing]) and is_ascending(thing)):
        return False
    return is_table(_told_more(table, thing))


def _told_more(table, facts):
    """The TABLE with the pairs of the facts, too; no TABLE if they gainsay one another or what is told."""
    names, ones, aparts = frozen(table)
    more_ones = [(name, second) for word, name, second in facts if word == "one"]
    more_aparts = [(name, second) for word, name, second in facts if word == "apart"]
    return (names, set_of([*ones, *more_ones]), set_of([*aparts, *more_aparts]))


def told_more(table, facts):
    """The TABLE with the pairs of the FACTS in ones, in aparts, too."""
    if not are_facts(table, frozen(facts)):
        raise Unfit()
    return _told_more(table, facts)


def needless_facts(table, facts):
    """The set of the FACTS without each of which, alone, told_more has the same SAMENESSES."""
    every = frozen(facts)
    told = _told_more(table, every)
    return tuple([fact for fact in every
                  if same_tables(told, _told_more(table, [other for other in every if other != fact]))])


def can_tell(table, row, spot, value):
    """Whether the get with this spot tells this value by some SAMENESS."""
    return value in values_at(table, row, spot)


def is_sure_of(table, row, spot, value):
    """Whether the get with this spot tells this value by each SAMENESS."""
    return values_at(table, row, spot) == (value,)


def _is_sure(table, row, spot):
    """Whether the get with this spot tells the same by each SAMENESS."""
    return len(values_at(table, row, spot)) == 1


def sure_with(table, row, spot, facts):
    """Whether the get with this spot is sure in the TABLE that told_more tells."""
    check_spot(row, spot)
    return _is_sure(told_more(table, facts), row, spot)


def sure_pairs(table, row, spot, word):
    """The set of the open pairs that, told by this word, make the get with this spot sure."""
    check_spot(row, spot)
    pairs = open_pairs(table)
    return tuple([(one, other) for one, other in pairs if sure_with(table, row, spot, ((word, one, other),))])


def made_sure(table, row, fact):
    """The set of the spots that are sure by the FACT and were not."""
    told = told_more(table, (fact,))
    ahead = sure_spots(table, row)
    return tuple([spot for spot in sure_spots(told, row) if spot not in ahead])


def fewest_aparts(table, row, spot):
    """How few FACTS "apart" alone make the get with this spot sure."""
    return len(least_aparts(table, row, spot))


def least_aparts(table, row, spot):
    """The least of the sets of as few FACTS "apart" alone as can be that make the get with this spot sure."""
    check_spot(row, spot)
    name = [deed[1] for deed in row if deed[0] == "get" and deed[2] == spot][0]
    own = lump_of(table, name)
    # The finest SAMENESS stays whatever is told apart: so what it tells must be what all others tell, too.
    value = told_at(table, row, finest(table), spot)
    found = []
    for lump in lumps(table):
        if lump != own and can_join(table, own + lump):
            if told_at(table, row, joined_by(table, own + lump), spot) != value:
                found.append(("apart", *ordered_pair(own[0], lump[0])))
    return set_of(found)


def fewest_facts(table, row, spot, value):
    """How few FACTS make the get with this spot sure of this value; None if none do."""
    found = least_facts(table, row, spot, value)
    return None if found is None else len(found)


def least_facts(table, row, spot, value):
    """The least of the sets of as few FACTS as can be that make the get sure of this value; None if none do."""
    check_spot(row, spot)
    ways = all_samenesses(table)
    return _least_leaving(table, ways, [told_at(table, row, sameness, spot) == value for sameness in ways])


def are_facts_for(table, row, spot, value, thing):
    """Whether thing is FACTS by which the get with this spot is sure of this value."""
    check_spot(row, spot)
    return are_facts(table, thing) and is_sure_of(_told_more(table, thing), row, spot, value)


def fewest_to_same(table, one, other):
    """How few FACTS there must be such that both ROWS do the same; None if there are none."""
    found = least_to_same(table, one, other)
    return None if found is None else len(found)


def least_to_same(table, one, other):
    """The least of the sets of as few FACTS as can be such that both ROWS do the same; None if there are none."""
    ways = all_samenesses(table)
    return _least_leaving(table, ways, [outcome(table, one, way) == outcome(table, other, way) for way in ways])


def _least_leaving(table, ways, fit):
    """Of the sets of as few FACTS as can be that leave none of the ways but fit ones the least; None if none does."""
    if not any(fit):
        return None
    # A number stands for a set of ways: its bits tell which ones.
    unfit = sum([1 << place for place, good in enumerate(fit) if not good])
    left = _ways_left(table, ways)
    # FACTS that are sure already, or cannot be, are in no such set.
    facts = list(left)
    for many in range(len(facts) + 1):
        for some in combinations(facts, many):
            rest = _left_by_all(left, some, (1 << len(ways)) - 1)
            if rest != 0 and rest & unfit == 0:
                return some
    return None


def _ways_left(table, ways):
    """For each FACT that is neither sure nor impossible, ascending, the number for the set of ways that it leaves."""
    left = {}
    for word in ("apart", "one"):
        for one, other in open_pairs(table):
            told = [place for place, way in enumerate(ways) if are_one(table, way, one, other) == (word == "one")]
            left[(word, one, other)] = sum([1 << place for place in told])
    return left


def _left_by_all(left, facts, rest):
    """The number for the set of those of rest that all of these FACTS leave."""
    for fact in facts:
        rest = rest & left[fact]
    return rest
