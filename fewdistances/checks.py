"""What the other modules ask of whatever is handed in."""

from fewdistances.errors import NoNumber


def is_whole(thing):
    """Tell whether a thing is a whole number."""
    # A truth is an int to Python, but no whole number here.
    return isinstance(thing, int) and not isinstance(thing, bool)


def is_within(thing, least, most):
    """Tell whether a thing is a whole number from least to most."""
    return is_whole(thing) and least <= thing <= most


def is_rising(some):
    """Tell whether each is greater than the one ahead, of things that compare."""
    return all([one < other for one, other in zip(some, some[1:])])


def need_number(thing):
    """Refuse what is no whole number."""
    if not is_whole(thing):
        raise NoNumber("a whole number is needed")


def need_within(thing, least, most):
    """Refuse what is no whole number from least to most."""
    if not is_within(thing, least, most):
        raise NoNumber(f"a whole number from {least} to {most} is needed")
