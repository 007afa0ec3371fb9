"""Of what kind an object is: whatever object is asked of, the answer is True or False."""

SIGNS = "abcdefghijklmnopqrstuvwxyz0123456789."


def is_whole(thing):
    """Whether a thing is an integer; a bool is none."""
    return isinstance(thing, int) and not isinstance(thing, bool)


def is_between(thing, least, most):
    """Whether a thing is an integer from the least to the most one."""
    return is_whole(thing) and least <= thing <= most


def is_count(thing):
    """Whether a thing is an integer from 1 on."""
    return is_whole(thing) and thing >= 1


def is_list(thing):
    """Whether a thing counts as a list: tuples do, strings do not."""
    return isinstance(thing, (list, tuple))


def is_name(thing):
    """Whether a thing is a name: one or more letters a to z, digits and dots."""
    return isinstance(thing, str) and len(thing) > 0 and all([sign in SIGNS for sign in thing])


def is_key(thing, table):
    """Whether a thing is a string that is a key of a dict; a list, say, could not be looked up there."""
    return isinstance(thing, str) and thing in table


def are_whole(thing, many):
    """Whether a thing is a list of so many integers."""
    return is_list(thing) and len(thing) == many and all([is_whole(number) for number in thing])


def are_counts(thing, many):
    """Whether a thing is a list of so many integers from 1 on."""
    return are_whole(thing, many) and all([number >= 1 for number in thing])


def is_order(thing, many):
    """Whether a thing is a list of all integers from 0 to less than many, each once."""
    return are_whole(thing, many) and sorted(thing) == list(range(many))
