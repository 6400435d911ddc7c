"""Of what kind a thing is that was handed in, whatever it is."""


def is_whole(thing):
    """Whether a thing is a whole number."""
    # Python counts True and False among the whole numbers; the program doesn't.
    return isinstance(thing, int) and not isinstance(thing, bool)


def is_whole_within(thing, low, high):
    """Whether a thing is a whole number from low to high."""
    return is_whole(thing) and low <= thing <= high


def is_tuple_within(thing, bounds):
    """Whether a thing is a tuple of whole numbers, one within each of the bounds (low, high)."""
    if not isinstance(thing, tuple) or len(thing) != len(bounds):
        return False
    for number, bound in zip(thing, bounds):
        if not is_whole_within(number, bound[0], bound[1]):
            return False
    return True


def is_list_within(thing, least, most):
    """Whether a thing is a list of so many things, from least to most."""
    return isinstance(thing, list) and least <= len(thing) <= most
