"""Several orders beside one another, eaten as one: their worths by exclusive or."""

from eatenorders.bites import few_lefts, fit_left, gone_with, left_without
from eatenorders.errors import CanNot, NoPiece, Unfit
from eatenorders.forms import fit_number, is_number, is_pair, tupled
from eatenorders.making import chain
from eatenorders.orders import is_order
from eatenorders.worths import all_of, worth_and_bites


def sum_worth(orders):
    """Return the WORTH of all orders beside one another."""
    return worth_of_all(fit_orders(orders))


def sum_left(orders, lefts):
    """Return the WORTH of lefts beside one another."""
    own = fit_orders(orders)
    return worth_of_lots(lots_of(own, fit_lefts(own, lefts)))


def winning_spots(orders, lefts):
    """Return the set of the spots that leave lost ones."""
    own = fit_orders(orders)
    return spots_to_lost(lots_of(own, fit_lefts(own, lefts)))


def winning_spot(orders, lefts):
    """Return the least spot that leaves lost ones; CanNot() without."""
    own = fit_orders(orders)
    found = spots_to_lost(lots_of(own, fit_lefts(own, lefts)))
    if not found:
        raise CanNot()
    return found[0]


def is_winning_spot(orders, lefts, thing):
    """Tell whether thing is a spot that leaves lost ones."""
    own = fit_orders(orders)
    found = spots_to_lost(lots_of(own, fit_lefts(own, lefts)))
    return is_spot_of(found, thing)


def are_balanced(orders, others):
    """Tell whether orders and others, all beside one another, are lost."""
    own = fit_orders(orders)
    more = fit_orders(others)
    return worth_of_all(own + more) == 0


def balance(orders):
    """Return the CHAIN that, beside all orders, makes them lost."""
    return chain(worth_of_all(fit_orders(orders)))


def behind_spot(orders, lefts, number, piece):
    """Return the tuple of the LEFTS behind the BITE at this spot."""
    own, there = fit_spot(orders, lefts, number, piece)
    return lefts_behind(own, there, number, piece)


def answer_spot(orders, lefts, number, piece):
    """Return a spot by which, behind the BITE at the told one, lost ones are left again."""
    own, there = fit_spot(orders, lefts, number, piece)
    if worth_of_lots(lots_of(own, there)) != 0:
        raise CanNot()
    behind = lefts_behind(own, there, number, piece)
    return spots_to_lost(lots_of(own, behind))[0]


def is_answer_spot(orders, lefts, number, piece, thing):
    """Tell whether thing is a spot by which, behind the told BITE, lost ones are left."""
    own, there = fit_spot(orders, lefts, number, piece)
    behind = lefts_behind(own, there, number, piece)
    return is_spot_of(spots_to_lost(lots_of(own, behind)), thing)


def fit_orders(orders):
    """Return orders with tuples for lists; Unfit() if they are no tuple of ORDERS."""
    own = tupled(orders, 4)
    if not isinstance(own, tuple) or not all([is_order(order) for order in own]):
        raise Unfit()
    return own


def fit_lefts(orders, lefts):
    """Return lefts with tuples for lists; Unfit() if they are no LEFTS of orders, one of each."""
    own = tupled(lefts, 2)
    if not isinstance(own, tuple) or len(own) != len(orders):
        raise Unfit()
    return tuple([fit_left(order, left) for order, left in zip(orders, own)])


def fit_spot(orders, lefts, number, piece):
    """Return orders and lefts, all four arguments being checked, TooMany() ahead of NoPiece()."""
    own = fit_orders(orders)
    there = fit_lefts(own, lefts)
    fit_number(number)
    fit_number(piece)
    for order in own:
        few_lefts(order)
    if not 0 <= number < len(own) or piece not in there[number]:
        raise NoPiece((number, piece))
    return own, there


def lots_of(orders, lefts):
    """Return the list of WORTH and bites of each of lefts."""
    return [worth_and_bites(order, left) for order, left in zip(orders, lefts)]


def worth_of_lots(lots):
    """Return the WORTH of lots beside one another."""
    total = 0
    for number, _ in lots:
        total ^= number
    return total


def worth_of_all(orders):
    """Return the WORTH of all orders, whole, beside one another."""
    return worth_of_lots(lots_of(orders, [all_of(order) for order in orders]))


def spots_to_lost(lots):
    """Return the set of the spots that leave lost ones."""
    total = worth_of_lots(lots)
    return tuple([(number, piece) for number, (own, bites) in enumerate(lots)
                  for piece, behind in bites if total ^ own == behind])


def is_spot_of(spots, thing):
    """Tell whether thing is one of spots."""
    return is_pair(thing) and is_number(thing[0]) and is_number(thing[1]) and thing in spots


def lefts_behind(orders, lefts, number, piece):
    """Return lefts with what the BITE at this spot leaves in the place of one."""
    there = lefts[number]
    behind = left_without(there, gone_with(orders[number], there, piece))
    return lefts[:number] + (behind,) + lefts[number + 1:]
