"""What all files of the package need: kinds of values, and tuples for lists."""


def frozen(value):
    """The value with tuples in the place of lists, at any depth."""
    if isinstance(value, (list, tuple)):
        return tuple([frozen(part) for part in value])
    return value


def is_number(thing):
    """Whether thing is an int that is not a bool."""
    return isinstance(thing, int) and not isinstance(thing, bool)


def is_name(thing):
    """Whether thing is a NAME."""
    # isalpha and islower would let letters beyond z in.
    return isinstance(thing, str) and 1 <= len(thing) <= 8 and all(["a" <= sign <= "z" for sign in thing])


def is_ascending(things):
    """Whether things, all of one kind, ascend without duplicates."""
    return all([one < other for one, other in zip(things, things[1:])])


def is_set_of_strings(thing):
    """Whether thing is an ascending tuple of strings, maybe ()."""
    # Only strings are compared: unlike kinds have no order.
    return isinstance(thing, tuple) and all([isinstance(part, str) for part in thing]) and is_ascending(thing)


def ordered_pair(one, other):
    """The pair of both, the lesser one first."""
    return (min(one, other), max(one, other))


def set_of(things):
    """The ascending tuple of things, each once."""
    return tuple(sorted(set(things)))


def is_part(some, others):
    """Whether each of some is among the others."""
    return all([one in others for one in some])


def is_within_another(some, sets):
    """Whether some lies within an unlike one of the sets."""
    return any([some != other and is_part(some, other) for other in sets])
