"""What all files of the package need: kinds of values, and tuples for lists."""


def frozen(value):
    """The value with tuples in the place of lists, at any depth."""
    if isinstance(value, (list, tuple)):
        return tuple([frozen(part) for part in value])
    return value


def is_number(thing):
    """Whether thing is an int that is not a bool."""
    return isinstance(thing, int) and not isinstance(thing, bool)


def is_name(thing):
    """Whether thing is a NAME."""
    # isalpha and islower would let letters beyond z in.
    return isinstance(thing, str) and 1 <= len(thing) <= 8 and all(["a" <= sign <= "z" for sign in thing])


def is_ascending(things):
    """Whether things, all of one kind, ascend without duplicates."""
    return all([one < other for one, other in zip(things, things[1:])])


def is_set_of_strings(thing):
    """Whether thing is an ascending tuple of strings, maybe ()."""
    # Only strings are compared: unlike kinds have no order.
    return isinstance(thing, tuple) and all([isinstance(part, str) for part in thing]) and is_ascending(thing)


def ordered_pair(one, other):
    """The pair of both, the lesser one first."""
    return (min(one, other), max(one, other))


def set_of(things):
    """The ascending tuple of things, each once."""
    return tuple(sorted(set(things)))


def is_part(some, others):
    """Whether each of some is among the others."""
    return all([one in others for one in some])


def is_within_another(some, sets):
    """Whether some lies within an unlike one of the sets."""
    return any([some != other and is_part(some, other) for other in sets])


def swapped(things, place):
    """The tuple of things with the one at this place and the next one exchanged."""
    return (*things[:place], things[place + 1], things[place], *things[place + 2:])


def swap_way(things, ranks):
    """The tuple of the tuples that lead from things to those ordered by ranks, by as few exchanges of neighbours."""
    # Each exchange puts two in order that were not: no way can be shorter, and what is in order is kept.
    way = [things]
    while True:
        wrong = [place for place in range(len(ranks) - 1) if ranks[place] > ranks[place + 1]]
        if wrong == []:
            return tuple(way)
        ranks = swapped(ranks, wrong[0])
        way.append(swapped(way[-1], wrong[0]))


def free_next(lined, things, arrows):
    """The things that can stand next behind those lined up: each that an arrow leads from to them stands there."""
    held = [behind for ahead, behind in arrows if ahead not in lined]
    return [thing for thing in things if thing not in lined and thing not in held]


def lined_up(things, arrows):
    """Each time the first free one of the things behind the others; too short if the arrows lead round."""
    lined = ()
    for _ in things:
        lined = lined + tuple(free_next(lined, things, arrows)[:1])
    return lined


def one_more_lined(counts, things, arrows):
    """From how many ways there are to line up each set of so many things: likewise of one thing more."""
    grown = {}
    for lined in counts:
        for thing in free_next(lined, things, arrows):
            more = with_member(lined, thing)
            grown[more] = grown.get(more, 0) + counts[lined]
    return grown


def with_member(some, thing):
    """The set of some and this thing, which is not among them."""
    return tuple(sorted([*some, thing]))
