"""TABLES: which names are surely one, surely apart, or may be one."""

from aliasrows.basics import frozen, is_ascending, is_name, is_set_of_strings, ordered_pair, set_of
from aliasrows.errors import Known, NoName, Unfit


def is_table(thing):
    """Whether thing is a TABLE, of however many names."""
    if not (isinstance(thing, tuple) and len(thing) == 3):
        return False
    names, ones, aparts = thing
    if not (is_set_of_strings(names) and len(names) > 0 and all([is_name(name) for name in names])):
        return False
    known = {name: True for name in names}
    if not (_is_set_of_pairs(ones, known) and _is_set_of_pairs(aparts, known)):
        return False
    heads = _heads(names, ones)
    return all([heads[one] != heads[other] for one, other in aparts])


def _is_set_of_pairs(thing, known):
    """Whether thing is a set of pairs of known names, the lesser one first in each."""
    return isinstance(thing, tuple) and all([_is_pair(part, known) for part in thing]) and is_ascending(thing)


def _is_pair(thing, known):
    """Whether thing is a pair of known names, the lesser one first."""
    if not (is_set_of_strings(thing) and len(thing) == 2):
        return False
    return thing[0] in known and thing[1] in known


def _heads(names, ones):
    """For each name the least name that hangs together with it."""
    links = {name: name for name in names}
    for one, other in ones:
        first, second = _head(links, one), _head(links, other)
        links[max(first, second)] = min(first, second)
    return {name: _head(links, name) for name in names}


def _head(links, name):
    """The name to which the links lead from this one."""
    while links[name] != name:
        # Each step is cut short: a long chain is not gone along again and again.
        links[name] = links[links[name]]
        name = links[name]
    return name


def check_names(names, asked):
    """Raise NoName for the first string of asked that is not among names."""
    for name in asked:
        if name not in names:
            raise NoName(name)


def names_of(table):
    """The set of the names of the TABLE."""
    return frozen(table)[0]


def lumps(table):
    """The set of the lumps of the TABLE."""
    names, ones, _ = frozen(table)
    heads = _heads(names, ones)
    members = {}
    for name in names:
        members.setdefault(heads[name], []).append(name)
    return tuple([tuple(members[head]) for head in members])


def lump_of(table, name):
    """The lump of this name."""
    check_names(names_of(table), (name,))
    return [lump for lump in lumps(table) if name in lump][0]


def surely_one(table, one, other):
    """Whether both are in one cell by each SAMENESS."""
    return told_of(table, one, other) == "one"


def surely_apart(table, one, other):
    """Whether both are in one cell by no SAMENESS."""
    return told_of(table, one, other) == "apart"


def may_be_one(table, one, other):
    """Whether both are in one cell by some SAMENESS."""
    return told_of(table, one, other) != "apart"


def told_of(table, one, other):
    """The word "one", "apart" or "open": what is sure of both."""
    names, ones, aparts = frozen(table)
    check_names(names, (one, other))
    return _word(_heads(names, ones), aparts, one, other)


def _word(heads, aparts, one, other):
    """What told_of tells, by the heads of the names."""
    if heads[one] == heads[other]:
        return "one"
    ends = ordered_pair(heads[one], heads[other])
    if ends in [ordered_pair(heads[first], heads[second]) for first, second in aparts]:
        return "apart"
    return "open"


def _pairs_told(table, word):
    """The set of the pairs of unlike names of which told_of tells this word."""
    names, ones, aparts = table
    heads = _heads(names, ones)
    pairs = [(one, other) for one in names for other in names if one < other]
    return tuple([(one, other) for one, other in pairs if _word(heads, aparts, one, other) == word])


def maybe_with(table, name):
    """The set of the other names that may be one with this one."""
    names = names_of(table)
    check_names(names, (name,))
    return tuple([other for other in names if other != name and may_be_one(table, name, other)])


def open_pairs(table):
    """The set of the pairs of names that are neither surely one nor surely apart."""
    return _pairs_told(frozen(table), "open")


def with_name(table, name):
    """The TABLE with this NAME, too, in no pair."""
    names, ones, aparts = frozen(table)
    if name in names:
        raise Known(name)
    return (tuple(sorted([*names, name])), ones, aparts)


def without_name(table, name):
    """The TABLE without this name and all pairs with it."""
    names, ones, aparts = frozen(table)
    check_names(names, (name,))
    rest = tuple([other for other in names if other != name])
    return (rest, _pairs_without(ones, name), _pairs_without(aparts, name))


def _pairs_without(pairs, name):
    """The pairs in which this name is not."""
    return tuple([pair for pair in pairs if name not in pair])


def with_one(table, one, other):
    """The TABLE with the pair of both in ones, too."""
    names, ones, aparts = frozen(table)
    word = told_of(table, one, other)
    if one == other or word == "apart":
        raise Unfit()
    return (names, set_of([*ones, ordered_pair(one, other)]), aparts)


def with_apart(table, one, other):
    """The TABLE with the pair of both in aparts, too."""
    names, ones, aparts = frozen(table)
    # One and the same name is surely one, so it is refused here, too.
    if told_of(table, one, other) == "one":
        raise Unfit()
    return (names, ones, set_of([*aparts, ordered_pair(one, other)]))


def without_pair(table, one, other):
    """The TABLE with the pair of both neither in ones nor in aparts."""
    names, ones, aparts = frozen(table)
    check_names(names, (one, other))
    gone = ordered_pair(one, other)
    left_ones = tuple([pair for pair in ones if pair != gone])
    left_aparts = tuple([pair for pair in aparts if pair != gone])
    return (names, left_ones, left_aparts)


def renamed(table, pairs):
    """The TABLE with the first name of each pair turned into the second one, all at once."""
    names, ones, aparts = frozen(table)
    turned = {name: _turned(pairs, name) for name in names}
    fresh = [turned[name] for name in names]
    if len(set(fresh)) < len(fresh):
        raise Unfit()
    return (tuple(sorted(fresh)), _turned_pairs(ones, turned), _turned_pairs(aparts, turned))


def _turned(pairs, name):
    """What the pairs turn this name into: itself, if it is first in none."""
    for old, fresh in pairs:
        if old == name:
            return fresh
    return name


def _turned_pairs(pairs, turned):
    """The set of the pairs of the turned names."""
    return set_of([ordered_pair(turned[one], turned[other]) for one, other in pairs])


def filled(table):
    """The TABLE with all surely one pairs in ones, all surely apart pairs in aparts."""
    table = frozen(table)
    return (table[0], _pairs_told(table, "one"), _pairs_told(table, "apart"))


def same_tables(table, second):
    """Whether both TABLES have the same names and the same SAMENESSES."""
    # The SAMENESSES tell which pairs are sure, and these tell the SAMENESSES.
    return filled(table) == filled(second)
