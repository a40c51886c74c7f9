"""What several modules ask of any thing: whole numbers, tuples of so many, sorts [2, 7]."""


def is_whole(thing):
    """Whether it is a whole number; Python counts truths as such, the document does not."""
    return isinstance(thing, int) and not isinstance(thing, bool)


def is_within(thing, least, most):
    """Whether it is a whole number from least to most."""
    return is_whole(thing) and least <= thing <= most


def is_tuple_of(thing, many):
    """Whether it is a tuple of so many things."""
    return isinstance(thing, tuple) and len(thing) == many


def are_sorts(sorts, thing):
    """Whether it is a rising tuple of numbers below sorts, perhaps of none."""
    if not isinstance(thing, tuple):
        return False
    ahead = -1
    for sort in thing:
        if not is_within(sort, ahead + 1, sorts - 1):
            return False
        ahead = sort
    return True
