"""Companies: orders with a hole, into which other orders are put."""

from eatenorders.decomposing import strong_rows
from eatenorders.errors import TooMany, Unfit
from eatenorders.forms import is_number_from, is_pair, tupled
from eatenorders.modules import fit_module, modules_by
from eatenorders.orders import fit_order, greatest_of, is_order, least_of, part_of

MOST_PIECES = 10


def is_company(thing):
    """Tell whether thing is a COMPANY."""
    if not is_pair(thing) or not is_order(thing[0]):
        return False
    return is_number_from(0, thing[1]) and thing[1] < thing[0][0]


def put_in(company, order):
    """Return the ORDER in which order is put into company."""
    own = fit_company(company)
    return put_into(own, fit_order(order))


def places_put(company, order):
    """Return the pair of the tuples of the numbers there of company's pieces, of order's."""
    (many, _), hole = fit_company(company)
    more, _ = fit_order(order)
    others = [moved_from(hole, more, piece) for piece in range(many) if piece != hole]
    return tuple(others), tuple(range(hole, hole + more))


def nested(company, other):
    """Return the COMPANY of other's ORDER put into company, with other's hole."""
    own = fit_company(company)
    inner, hole = fit_company(other)
    return put_into(own, inner), own[1] + hole


def taken_out(order, module):
    """Return the COMPANY of the pieces that are none of module's, and a hole for these."""
    own = fit_order(order)
    return company_around(own, fit_module(own, module))


def inside(order, module):
    """Return the ORDER of module's pieces alone."""
    own = fit_order(order)
    return part_of(own, fit_module(own, module))


def companies(order):
    """Return the list of the pairs (module, taken_out of it); TooMany() above 10 pieces."""
    own = fit_order(order)
    if own[0] > MOST_PIECES:
        raise TooMany()
    return [(module, company_around(own, module)) for module in modules_by(strong_rows(own))]


def fit_company(company):
    """Return company with tuples for lists; Unfit() if it is no COMPANY."""
    own = tupled(company, 4)
    if not is_company(own):
        raise Unfit()
    return own


def put_into(company, order):
    """Return the ORDER in which an ORDER is put into a COMPANY, both known to be such."""
    own, hole = company
    many, ties = own
    more, inner = order
    if more == 0:
        return part_of(own, tuple([piece for piece in range(many) if piece != hole]))
    # No tie follows anew: what led through the hole leads through order's pieces still.
    lower = {hole: [hole + piece for piece in greatest_of(order)]}
    upper = {hole: [hole + piece for piece in least_of(order)]}
    found = [(hole + low, hole + high) for low, high in inner]
    for low, high in ties:
        found.extend([(one, other) for one in lower.get(low, [moved_from(hole, more, low)])
                      for other in upper.get(high, [moved_from(hole, more, high)])])
    return many - 1 + more, tuple(sorted(found))


def moved_from(hole, more, piece):
    """Return the number of a COMPANY's piece, not the hole, once so many stand for the hole."""
    return piece if piece < hole else piece - 1 + more


def company_around(order, module):
    """Return the COMPANY of what is none of module, of ORDER and MODULE known to be such."""
    inner = set(module[1:])
    kept = tuple([piece for piece in range(order[0]) if piece not in inner])
    return part_of(order, kept), kept.index(module[0])
