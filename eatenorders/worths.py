"""Worths of lefts, by Sprague's and Grundy's theory, for orders with few lefts."""

from eatenorders.bites import few_lefts, fit_left, masks_above
from eatenorders.errors import CanNot
from eatenorders.forms import fit_number, is_number
from eatenorders.orders import fit_order


def worth(order):
    """Return the WORTH of order."""
    own = fit_order(order)
    return worth_and_bites(own, all_of(own))[0]


def set_of_worths(order):
    """Return the SET of order."""
    own = fit_order(order)
    return set_by(worth_and_bites(own, all_of(own)))


def worth_left(order, left):
    """Return the WORTH of left."""
    return asked(order, left)[0]


def set_left(order, left):
    """Return the SET of left."""
    return set_by(asked(order, left))


def is_won(order, left):
    """Tell whether left is won."""
    return asked(order, left)[0] > 0


def bites_to(order, left, number):
    """Return the set of the pieces at which a BITE leaves the WORTH number."""
    own = fit_order(order)
    there = fit_left(own, left)
    fit_number(number)
    return pieces_to(worth_and_bites(own, there), number)


def winning_bites(order, left):
    """Return the set of the pieces at which a BITE leaves a lost LEFT."""
    return pieces_to(asked(order, left), 0)


def winning_bite(order, left):
    """Return the least piece at which a BITE leaves a lost LEFT; CanNot() without."""
    found = pieces_to(asked(order, left), 0)
    if not found:
        raise CanNot()
    return found[0]


def is_winning_bite(order, left, thing):
    """Tell whether thing is a piece at which a BITE leaves a lost LEFT."""
    found = pieces_to(asked(order, left), 0)
    return is_number(thing) and thing in found


def lost_lefts(order):
    """Return the list, ascending, of the lost LEFTS."""
    own = fit_order(order)
    rows = few_lefts(own)
    worths = worths_by_mask(own, rows)
    return sorted([left for mask, left in rows if worths[mask] == 0])


def by_worth(order):
    """Return the tuple of how many LEFTS have each WORTH, from 0 on."""
    own = fit_order(order)
    found = list(worths_by_mask(own, few_lefts(own)).values())
    return tuple([found.count(number) for number in range(max(found) + 1)])


def all_of(order):
    """Return the LEFT of all pieces."""
    return tuple(range(order[0]))


def asked(order, left):
    """Return WORTH and bites of left, what is passed in being checked."""
    own = fit_order(order)
    return worth_and_bites(own, fit_left(own, left))


def worth_and_bites(order, left):
    """Return the WORTH of left and the tuple of the pairs (piece, WORTH behind the BITE).

    TooMany() if order, known to be one, has not few LEFTS.
    """
    rows = few_lefts(order)
    whole = sum([1 << piece for piece in left])
    worths = worths_by_mask(order, [row for row in rows if row[0] & whole == row[0]])
    above = masks_above(order)
    return worths[whole], tuple([(piece, worths[whole & ~above[piece]]) for piece in left])


def worths_by_mask(order, rows):
    """Return the dict of the WORTHS of LEFTS by their masks, rows as few_lefts tells them."""
    above = masks_above(order)
    worths = {}
    # What a BITE leaves has the lesser mask, so its WORTH is known.
    for mask, left in rows:
        worths[mask] = first_lacking([worths[mask & ~above[piece]] for piece in left])
    return worths


def first_lacking(numbers):
    """Return the least number from 0 that is none of numbers."""
    there = set(numbers)
    number = 0
    while number in there:
        number += 1
    return number


def set_by(found):
    """Return the SET, of WORTH and bites."""
    return tuple(sorted(set([number for _, number in found[1]])))


def pieces_to(found, aim):
    """Return the set of the pieces behind whose BITE the WORTH is aim, of WORTH and bites."""
    return tuple([piece for piece, number in found[1] if number == aim])
