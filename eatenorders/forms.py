"""The forms of values: numbers, rows and sets of them, lists taken for tuples."""

from eatenorders.errors import Unfit


def is_number(thing):
    """Tell whether thing is a number: True and False are none."""
    return isinstance(thing, int) and not isinstance(thing, bool)


def is_number_from(least, thing):
    """Tell whether thing is a number not below least."""
    return is_number(thing) and thing >= least


def is_pair(thing):
    """Tell whether thing is a tuple of two."""
    return isinstance(thing, tuple) and len(thing) == 2


def is_ascending(row):
    """Tell whether each of row is less than the next one."""
    return all([row[at] < row[at + 1] for at in range(len(row) - 1)])


def is_row_below(many, thing):
    """Tell whether thing is a tuple of numbers from 0 below many."""
    if not isinstance(thing, tuple):
        return False
    return all([is_number_from(0, number) and number < many for number in thing])


def is_set_below(many, thing):
    """Tell whether thing is a set of numbers from 0 below many."""
    return is_row_below(many, thing) and is_ascending(thing)


def is_each_once_below(many, thing):
    """Tell whether thing is a tuple of all numbers from 0 below many, each once."""
    # The length comes first: many may be far greater than what can be gone through.
    if not isinstance(thing, tuple) or len(thing) != many:
        return False
    return is_row_below(many, thing) and len(set(thing)) == many


def tupled(value, depth):
    """Return value with tuples for lists, so many levels down.

    Deeper lists stay, so that no value, however deep, is gone through whole:
    what asks for the form of the value finds them there and refuses it.
    """
    if depth == 0 or not isinstance(value, (list, tuple)):
        return value
    return tuple([tupled(part, depth - 1) for part in value])


def fit_number(number):
    """Return number; Unfit() if it is no number."""
    if not is_number(number):
        raise Unfit()
    return number


def fit_number_from(least, number):
    """Return number; Unfit() if it is no number, or below least."""
    if not is_number_from(least, number):
        raise Unfit()
    return number
