"""Of what kind a value is that a caller passes; each question may be asked of any object."""


def is_list(thing):
    """Tell whether thing is a list, or a tuple, which will do for one."""
    return isinstance(thing, (list, tuple))


def is_int(thing):
    """Tell whether thing is an integer."""
    # Python counts True and False among its ints.
    return isinstance(thing, int) and not isinstance(thing, bool)


def is_int_within(thing, least, greatest):
    """Tell whether thing is an integer from least to greatest."""
    return is_int(thing) and least <= thing <= greatest


def is_word(thing):
    """Tell whether thing is a string of one to eight small letters a to z."""
    return (isinstance(thing, str) and 1 <= len(thing) <= 8
            and thing.isascii() and thing.isalpha() and thing.islower())


def is_word_list(thing, most):
    """Tell whether thing is a list of one to most unlike words."""
    return (is_list(thing) and 1 <= len(thing) <= most
            and all([is_word(word) for word in thing])
            and len(set(thing)) == len(thing))
