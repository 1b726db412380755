"""What may be exchanged: orders that are one in every company, and what parts the others."""

from eatenorders.companies import company_around, fit_company, put_into
from eatenorders.forms import is_number_from
from eatenorders.great import set_reckoned
from eatenorders.making import chain, side_by_side
from eatenorders.modules import fit_module
from eatenorders.orders import fit_order, part_of
from eatenorders.sets import lacking_at, least_lacking, unlike_place


def same_everywhere(order, other):
    """Tell whether each COMPANY has the same WORTH with either put into it."""
    one, two = sets_of_two(order, other)
    return one == two


def parting(order, other):
    """Return the PARTING with the least top; CanNot() if both are the same everywhere."""
    one, two = sets_of_two(order, other)
    top = unlike_place(one, two)
    return top, lacking_at(one, (top,))[0], lacking_at(two, (top,))[0]


def is_parting(order, other, thing):
    """Tell whether thing is a PARTING of both."""
    sets = sets_of_two(order, other)
    if not isinstance(thing, tuple) or len(thing) != 3:
        return False
    if not all([is_number_from(0, number) for number in thing]):
        return False
    one, two = [lacking_at(own, thing[:1])[0] for own in sets]
    return one != two and thing[1:] == (one, two)


def parting_company(order, other):
    """Return the COMPANY, made by the parting, that parts both; CanNot() if none does."""
    top, near, _ = parting(order, other)
    return side_by_side(chain(top + 1), chain(near)), 0


def parted_by(company, order, other):
    """Tell whether company has unlike WORTHS with order and with other put into it."""
    own = fit_company(company)
    one = fit_order(order)
    two = fit_order(other)
    return worth_put(own, one) != worth_put(own, two)


def exchanged(order, module, other):
    """Return order with other in the place of module."""
    own = fit_order(order)
    inner = fit_module(own, module)
    return put_into(company_around(own, inner), fit_order(other))


def may_exchange(order, module, other):
    """Tell whether module's pieces and other are the same everywhere."""
    own = fit_order(order)
    inner = fit_module(own, module)
    two = fit_order(other)
    return set_reckoned(part_of(own, inner)) == set_reckoned(two)


def sets_of_two(order, other):
    """Return the pair of the SETS of both, what is passed in being checked."""
    one = fit_order(order)
    two = fit_order(other)
    return set_reckoned(one), set_reckoned(two)


def worth_put(company, order):
    """Return the WORTH of a COMPANY with an ORDER put into it, both known to be such."""
    return least_lacking(set_reckoned(put_into(company, order)))
