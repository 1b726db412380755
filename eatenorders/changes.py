"""Changes of an order: a piece more or less, a pair more or less."""

from eatenorders.bites import few_lefts
from eatenorders.errors import Broken, CanNot, Unfit
from eatenorders.forms import fit_number, is_row_below, tupled
from eatenorders.masks import bits_of, links_of
from eatenorders.orders import check_piece, fit_order, fit_pieces, order_led_by, order_with_piece, part_of
from eatenorders.worths import set_of_worths, worth


def piece_more(order, pieces):
    """Return the ORDER with a piece more, above all of pieces and what lies under them."""
    own = fit_order(order)
    many, ties = own
    return order_led_by(many + 1, ties + tuple([(low, many) for low in fit_pieces(own, pieces)]))


def piece_less(order, piece):
    """Return the ORDER without piece."""
    return without_piece(order_with_piece(order, piece), piece)


def can_more(order):
    """Return the set of the pairs that can be put in alone."""
    many, ties = fit_order(order)
    links = links_of((many, ties))
    return tuple([(low, high) for low in range(many) for high in range(low + 1, many)
                  if can_put_in(links, low, high)])


def pair_more(order, low, high):
    """Return the ORDER with this pair, too; CanNot() if it cannot be put in alone."""
    return pair_changed(order, "more", low, high)


def pair_less(order, low, high):
    """Return the ORDER without this pair; CanNot() if it is no tie."""
    return pair_changed(order, "less", low, high)


def changed(order, changes):
    """Return the ORDER behind changes; Broken(number) for the first that cannot be done."""
    own = fit_order(order)
    steps = tupled(changes, 2)
    if not are_changes(own[0], steps):
        raise Unfit()
    links = links_of(own)
    undone = changes_done(links, steps)
    if undone is not None:
        raise Broken(undone)
    return order_linked(links)


def unlike_pairs(order, other):
    """Return the set of the pairs that just one of both has."""
    return unlike_in_two(fit_two(order, other))


def changes_between(order, other):
    """Return CHANGES, as few as can be, that lead from order to other.

    First goes what other has not, and then comes what order has not. With the pairs whose numbers
    are nearest to one another going first, and coming last, each is a tie when it goes or comes:
    between its pieces lies none that does so in both orders.
    """
    two = fit_two(order, other)
    above, _ = links_of(two[0])
    apart = sorted([(high - low, low, high) for low, high in unlike_in_two(two)])
    less = [("less", low, high) for _, low, high in apart if (above[low] >> high) & 1]
    more = [("more", low, high) for _, low, high in reversed(apart) if not (above[low] >> high) & 1]
    return tuple(less + more)


def is_changes_between(order, other, thing):
    """Tell whether thing are CHANGES, as few as can be, that lead from order to other."""
    two = fit_two(order, other)
    if not isinstance(thing, tuple) or len(thing) != len(unlike_in_two(two)):
        return False
    if not are_changes(two[0][0], thing):
        return False
    links = links_of(two[0])
    return changes_done(links, thing) is None and order_linked(links) == two[1]


def worths_less(order):
    """Return the tuple with, for each piece, the WORTH of the ORDER without it."""
    own = few_lefts_checked(order)
    return tuple([worth(without_piece(own, piece)) for piece in range(own[0])])


def idle_pieces(order):
    """Return the set of the pieces without which the ORDER has the same SET."""
    own = few_lefts_checked(order)
    whole = set_of_worths(own)
    return tuple([piece for piece in range(own[0]) if set_of_worths(without_piece(own, piece)) == whole])


def idle_ties(order):
    """Return the set of the ties without which the ORDER has the same SET."""
    own = few_lefts_checked(order)
    whole = set_of_worths(own)
    return tuple([(low, high) for low, high in own[1] if set_of_worths(pair_less(own, low, high)) == whole])


def fit_two(order, other):
    """Return both with tuples for lists; Unfit() if they are no ORDERS of as many pieces."""
    one = fit_order(order)
    two = fit_order(other)
    if one[0] != two[0]:
        raise Unfit()
    return one, two


def few_lefts_checked(order):
    """Return order with tuples for lists; TooMany() if it has not few LEFTS."""
    own = fit_order(order)
    few_lefts(own)
    return own


def without_piece(order, piece):
    """Return an ORDER that is known to be one without one of its pieces."""
    return part_of(order, tuple([other for other in range(order[0]) if other != piece]))


def can_put_in(links, low, high):
    """Tell whether (low, high) can be put in alone, links being the masks of what lies above, under."""
    above, under = links
    if low >= high or (above[low] >> high) & 1:
        return False
    return under[low] & ~under[high] == 0 and above[high] & ~above[low] == 0


def is_tie_by(links, low, high):
    """Tell whether (low, high) is a tie, links being the masks of what lies above, under."""
    above, under = links
    return (above[low] >> high) & 1 == 1 and above[low] & under[high] == 0


def is_done(links, word, low, high):
    """Do a CHANGE in links, if it can be done, and tell whether it was."""
    if not (can_put_in(links, low, high) if word == "more" else is_tie_by(links, low, high)):
        return False
    above, under = links
    above[low] ^= 1 << high
    under[high] ^= 1 << low
    return True


def changes_done(links, changes):
    """Do CHANGES in links; return the number of the first that cannot be done, None if all can."""
    for number, (word, low, high) in enumerate(changes):
        if not is_done(links, word, low, high):
            return number
    return None


def pair_changed(order, word, low, high):
    """Return order behind one CHANGE, what is passed in being checked; CanNot() if it cannot be done."""
    own = fit_order(order)
    fit_number(low)
    fit_number(high)
    check_piece(own, low)
    check_piece(own, high)
    links = links_of(own)
    if not is_done(links, word, low, high):
        raise CanNot()
    return order_linked(links)


def order_linked(links):
    """Return the ORDER with these masks of what lies above, under each piece."""
    above, under = links
    return len(above), tuple([(low, high) for low, mask in enumerate(above) for high in bits_of(mask)
                              if mask & under[high] == 0])


def unlike_in_two(orders):
    """Return the set of the pairs that just one of two ORDERS, of as many pieces, has."""
    one, _ = links_of(orders[0])
    two, _ = links_of(orders[1])
    return tuple([(low, high) for low in range(len(one)) for high in bits_of(one[low] ^ two[low])])


def are_changes(many, thing):
    """Tell whether thing is a tuple of CHANGES of an ORDER of many pieces."""
    return isinstance(thing, tuple) and all([is_change(many, change) for change in thing])


def is_change(many, thing):
    """Tell whether thing is a CHANGE of an ORDER of many pieces."""
    if not isinstance(thing, tuple) or len(thing) != 3 or not is_row_below(many, thing[1:]):
        return False
    return thing[0] == "more" or thing[0] == "less"
