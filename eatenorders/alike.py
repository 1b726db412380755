"""Orders numbered otherwise, and the ways in which an order is like itself."""

from eatenorders.bites import few_lefts
from eatenorders.errors import TooMany, Unfit
from eatenorders.forms import is_each_once_below, tupled
from eatenorders.moves import all_moves
from eatenorders.orders import fit_order

MOST_NUMBERINGS = 5040
MOST_AUTOMORPHISMS = 2000


def is_numbering(order, thing):
    """Tell whether thing is a NUMBERING of order."""
    return is_numbering_of(fit_order(order), thing)


def renumbered(order, pieces):
    """Return the ORDER in which piece pieces[k] is called k."""
    many, ties = fit_order(order)
    own = tupled(pieces, 1)
    if not is_numbering_of((many, ties), own):
        raise Unfit()
    return many, ties_called(ties, own)


def how_many_numberings(order):
    """Return how many NUMBERINGS there are; TooMany() above 2,000 LEFTS."""
    own = fit_order(order)
    return numberings_counted(few_lefts(own))


def least_form(order):
    """Return the least of all ORDERS that order can be numbered to be."""
    return least_form_of(fit_order(order))


def how_many_forms(order):
    """Return how many unlike ORDERS order can be numbered to be."""
    own = fit_order(order)
    return len({ties_called(own[1], pieces) for pieces in few_numberings(own)})


def are_alike(order, other):
    """Tell whether order can be numbered to be other."""
    own = fit_order(order)
    others = fit_order(other)
    return least_form_of(own) == least_form_of(others)


def automorphisms(order):
    """Return the list, ascending, of all automorphisms; TooMany() above 2,000."""
    found = all_moves(fit_order(order), MOST_AUTOMORPHISMS)
    if len(found) > MOST_AUTOMORPHISMS:
        raise TooMany()
    return sorted(found)


def is_automorphism(order, thing):
    """Tell whether thing is an automorphism of order."""
    many, ties = fit_order(order)
    if not is_each_once_below(many, thing):
        return False
    # As many ties come out as go in, so it is enough that each of them is one.
    return sorted([(thing[low], thing[high]) for low, high in ties]) == list(ties)


def is_numbering_of(order, thing):
    """Tell whether thing is a NUMBERING of an ORDER that is known to be one."""
    many, ties = order
    if not is_each_once_below(many, thing):
        return False
    place = {piece: at for at, piece in enumerate(thing)}
    return all([place[low] < place[high] for low, high in ties])


def ties_called(ties, pieces):
    """Return ties, ascending, with the place in pieces for each piece."""
    place = {piece: at for at, piece in enumerate(pieces)}
    return tuple(sorted([(place[low], place[high]) for low, high in ties]))


def least_form_of(order):
    """Return the least form of an ORDER that is known to be one."""
    many, ties = order
    return many, min([ties_called(ties, pieces) for pieces in few_numberings(order)])


def numberings_counted(rows):
    """Return how many NUMBERINGS an ORDER has, rows as few_lefts tells them."""
    ways = {}
    for mask, left in rows:
        # A piece can come last exactly if without it there is a LEFT.
        before = [ways.get(mask ^ (1 << piece), 0) for piece in left]
        ways[mask] = sum(before) if left else 1
    return ways[rows[-1][0]]


def few_numberings(order):
    """Return the list of all NUMBERINGS; TooMany() above 2,000 LEFTS or 5,040 of them."""
    rows = few_lefts(order)
    if numberings_counted(rows) > MOST_NUMBERINGS:
        raise TooMany()
    behind = next_pieces(rows)
    # Each beginning goes on to a NUMBERING, so there are never more of them.
    found = [((), 0)]
    for _ in range(order[0]):
        found = [(pieces + (piece,), mask | (1 << piece))
                 for pieces, mask in found for piece in behind[mask]]
    return [pieces for pieces, _ in found]


def next_pieces(rows):
    """Return the dict of the lists of the pieces with which each mask is a LEFT again."""
    behind = {mask: [] for mask, _ in rows}
    for mask, left in rows:
        for piece in left:
            before = mask ^ (1 << piece)
            if before in behind:
                behind[before].append(piece)
    return behind
