"""Lefts of an order, and the bites that lead from one to another."""

from eatenorders.errors import CanNot, NoPiece, TooMany, Unfit
from eatenorders.forms import fit_number, is_row_below, is_set_below, tupled
from eatenorders.orders import fit_order, led_to, mark_led_to, ties_down, ties_up

MOST_LEFTS = 2000


def is_left(order, thing):
    """Tell whether thing is a LEFT of order."""
    return is_left_of(fit_order(order), thing)


def is_play(order, thing):
    """Tell whether thing is a PLAY of order."""
    return is_play_of(fit_order(order), thing)


def bite_at(order, left, piece):
    """Return the set of the pieces that go with the BITE at piece."""
    own = fit_order(order)
    there = fit_left(own, left)
    check_left_piece(there, fit_number(piece))
    return gone_with(own, there, piece)


def bitten(order, left, piece):
    """Return the LEFT behind the BITE at piece."""
    own = fit_order(order)
    there = fit_left(own, left)
    check_left_piece(there, fit_number(piece))
    return left_without(there, gone_with(own, there, piece))


def after_bites(order, left):
    """Return the list, ascending, of the LEFTS that one BITE leaves."""
    own = fit_order(order)
    there = fit_left(own, left)
    return sorted([left_without(there, gone_with(own, there, piece)) for piece in there])


def left_behind(order, play):
    """Return the LEFT behind play."""
    own = fit_order(order)
    return left_by_play(own, fit_play(own, play))


def first_flaw(order, pieces):
    """Return the number of the first of pieces that is gone already, None without."""
    own = fit_order(order)
    bites = tupled(pieces, 1)
    if not is_row_below(own[0], bites):
        raise Unfit()
    return flaw_of(own, bites)


def lefts(order):
    """Return the list, ascending, of all LEFTS; TooMany() above 2,000."""
    return sorted_lefts(fit_order(order))


def how_many_lefts(order):
    """Return how many LEFTS there are; TooMany() above 2,000."""
    return len(few_lefts(fit_order(order)))


def left_number(order, left):
    """Return the number of left in lefts; TooMany() above 2,000."""
    own = fit_order(order)
    there = fit_left(own, left)
    return sorted_lefts(own).index(there)


def left_at(order, number):
    """Return the LEFT of this number in lefts; TooMany() above 2,000."""
    own = fit_order(order)
    fit_number(number)
    found = sorted_lefts(own)
    if not 0 <= number < len(found):
        raise CanNot()
    return found[number]


def fewest_bites(order, left, other):
    """Return how many BITES lead at the fewest from left to other."""
    own = fit_order(order)
    there = fit_left(own, left)
    behind = fit_left(own, other)
    least, _ = least_and_others(own, there, behind)
    return len(least)


def bites_between(order, left, other, number):
    """Return so many pieces by which BITES lead from left to other."""
    own = fit_order(order)
    there = fit_left(own, left)
    behind = fit_left(own, other)
    fit_number(number)
    least, others = least_and_others(own, there, behind)
    alone = number - len(least)
    if not 0 <= alone <= len(others):
        raise CanNot()
    # From the greatest on, each of others goes alone; what is left of them goes with the least.
    return tuple(sorted(others, reverse=True)[:alone]) + least


def fit_left(order, left):
    """Return left with tuples for lists; Unfit() if it is no LEFT of order."""
    own = tupled(left, 1)
    if not is_left_of(order, own):
        raise Unfit()
    return own


def fit_play(order, play):
    """Return play with tuples for lists; Unfit() if it is no PLAY of order."""
    own = tupled(play, 1)
    if not is_play_of(order, own):
        raise Unfit()
    return own


def check_left_piece(left, piece):
    """NoPiece(piece) if piece, a number, is none of left."""
    if piece not in left:
        raise NoPiece(piece)


def is_left_of(order, thing):
    """Tell whether thing is a LEFT of an ORDER that is known to be one."""
    many, ties = order
    if not is_set_below(many, thing):
        return False
    there = set(thing)
    return all([low in there for low, high in ties if high in there])


def is_play_of(order, thing):
    """Tell whether thing is a PLAY of an ORDER that is known to be one."""
    return is_row_below(order[0], thing) and flaw_of(order, thing) is None


def flaw_of(order, bites):
    """Return the place of the first of bites at a piece that is gone, None without."""
    many, ties = order
    upper = ties_up(ties)
    gone = {}
    for at, piece in enumerate(bites):
        if piece in gone:
            return at
        bite_off(upper, many, piece, gone)
    return None


def left_by_play(order, play):
    """Return the LEFT behind a PLAY of an ORDER, both known to be such."""
    many, ties = order
    upper = ties_up(ties)
    gone = {}
    for piece in play:
        bite_off(upper, many, piece, gone)
    return tuple([piece for piece in range(many) if piece not in gone])


def bite_off(upper, many, piece, gone):
    """Mark in gone what goes with the BITE at piece: above what is gone all is gone."""
    gone[piece] = True
    mark_led_to(upper, piece, many, gone)


def gone_with(order, left, piece):
    """Return the set of the pieces of left that go with the BITE at piece."""
    many, ties = order
    there = set(left)
    return tuple([other for other in (piece,) + led_to(ties_up(ties), piece, many) if other in there])


def left_without(left, pieces):
    """Return the pieces of left that are none of pieces."""
    gone = set(pieces)
    return tuple([piece for piece in left if piece not in gone])


def least_and_others(order, left, other):
    """Return the least of what must go from left to other, and what else; CanNot() without a way.

    Each of the least takes a BITE of its own, as what lies under it must stay.
    """
    if left_without(other, left):
        raise CanNot()
    gone = left_without(left, other)
    going = set(gone)
    lower = ties_down(order[1])
    least = tuple([piece for piece in gone
                   if not any([low in going for low in lower.get(piece, ())])])
    return least, left_without(gone, least)


def few_lefts(order):
    """Return the list of the pairs (mask, LEFT) of all LEFTS, ascending by masks.

    The mask of a LEFT has the bit of each of its pieces. TooMany() above 2,000.
    """
    many, ties = order
    lower = ties_down(ties)
    found = [(0, ())]
    # Pieces come behind all that lie under them, and with each of them LEFTS only get more.
    for piece in range(many):
        bit = 1 << piece
        need = sum([1 << low for low in lower.get(piece, ())])
        more = [(mask | bit, left + (piece,)) for mask, left in found if mask & need == need]
        found = found + more
        if len(found) > MOST_LEFTS:
            raise TooMany()
    return found


def sorted_lefts(order):
    """Return the list of all LEFTS, ascending."""
    return sorted([left for _, left in few_lefts(order)])


def masks_above(order):
    """Return the list of the masks of each piece with all above it."""
    many, ties = order
    found = [1 << piece for piece in range(many)]
    upper = ties_up(ties)
    for piece in range(many - 1, -1, -1):
        for high in upper.get(piece, ()):
            found[piece] |= found[high]
    return found
