"""All orders of few pieces, their sets, and the least order with a set."""

from eatenorders.bites import few_lefts
from eatenorders.errors import CanNot, TooMany
from eatenorders.forms import fit_number_from
from eatenorders.orders import is_order, order_led_by
from eatenorders.sets import fit_set
from eatenorders.worths import set_of_worths, worth

MOST_LISTED = 5


def orders_of(many):
    """Return the list, ascending, of all ORDERS of many pieces."""
    return orders_asked(many)


def all_sets(many):
    """Return the list, ascending, of the SETS of all ORDERS of many pieces, each once."""
    return sorted(set([set_of_worths(order) for order in orders_asked(many)]))


def sets_counted(many):
    """Return the tuple of the pairs of a SET and how many ORDERS of many pieces have it."""
    counts = {}
    for order in orders_asked(many):
        own = set_of_worths(order)
        counts[own] = counts.get(own, 0) + 1
    return tuple(sorted(list(counts.items())))


def worths_counted(many):
    """Return the tuple of how many ORDERS of many pieces have each WORTH from 0 to many."""
    worths = [worth(order) for order in orders_asked(many)]
    return tuple([worths.count(number) for number in range(many + 1)])


def with_set(worths, many):
    """Return the list, ascending, of the ORDERS of many pieces with worths for their SET."""
    own = fit_set(worths)
    return [order for order in orders_asked(many) if set_of_worths(order) == own]


def least_with(worths):
    """Return the least ORDER of 5 pieces at most with worths for its SET; CanNot() without."""
    found = least_found(fit_set(worths))
    if found is None:
        raise CanNot()
    return found


def is_least_with(worths, thing):
    """Tell whether thing is the least ORDER of 5 pieces at most with worths for its SET."""
    found = least_found(fit_set(worths))
    return is_order(thing) and thing == found


def orders_asked(many):
    """Return the list, ascending, of all ORDERS of many pieces, many being checked."""
    fit_number_from(0, many)
    if many > MOST_LISTED:
        raise TooMany()
    return orders_made(many)


def orders_made(many):
    """Return the list, ascending, of all ORDERS of few pieces.

    Without its last piece, which lies under none, an ORDER is one of a piece less; and what lies
    under this piece is a LEFT of that.
    """
    found = [(0, ())]
    for piece in range(many):
        found = [order_led_by(piece + 1, order[1] + tuple([(low, piece) for low in left]))
                 for order in found for _, left in few_lefts(order)]
    return sorted(found)


def least_found(worths):
    """Return the least ORDER of 5 pieces at most with this SET, None if there is none."""
    for many in range(MOST_LISTED + 1):
        for order in orders_made(many):
            if set_of_worths(order) == worths:
                return order
    return None
