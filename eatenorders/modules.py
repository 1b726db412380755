"""Modules: sets of pieces to which each other piece lies in one way."""

from eatenorders.decomposing import members_of, module_with, parts_of, quotient_of, strong_rows, unlike_to
from eatenorders.errors import CanNot, TooMany, Unfit
from eatenorders.forms import is_ascending, is_set_below, tupled
from eatenorders.masks import least_in, links_of, mask_of, pieces_in
from eatenorders.orders import fit_order, fit_pieces

MOST_MODULES = 2000


def is_module(order, thing):
    """Tell whether thing is a MODULE of order."""
    return is_module_of(fit_order(order), thing)


def modules(order):
    """Return the list, ascending, of all MODULES; TooMany() above 2,000."""
    rows = strong_rows(fit_order(order))
    if modules_counted(rows) > MOST_MODULES:
        raise TooMany()
    return modules_by(rows)


def how_many_modules(order):
    """Return how many MODULES there are."""
    return modules_counted(strong_rows(fit_order(order)))


def module_around(order, pieces):
    """Return the least MODULE that has all of pieces."""
    own = fit_order(order)
    inner = fit_pieces(own, pieces)
    if not inner:
        raise Unfit()
    return pieces_in(module_with(links_of(own), mask_of(inner), (1 << own[0]) - 1))


def are_crossing(order, module, other):
    """Tell whether two MODULES cross."""
    one, two = fit_modules(fit_order(order), module, other)
    return masks_cross(one, two)


def crossed(order, module, other):
    """Return the MODULES of what is in one or both, in both, in module alone, in other alone."""
    one, two = fit_modules(fit_order(order), module, other)
    if not masks_cross(one, two):
        raise CanNot()
    return pieces_in(one | two), pieces_in(one & two), pieces_in(one & ~two), pieces_in(two & ~one)


def how_they_lie(order, module, other):
    """Return how module lies to other: "under", "above" or "beside"."""
    own = fit_order(order)
    one, two = fit_modules(own, module, other)
    if one & two:
        raise CanNot()
    above, under = links_of(own)
    if above[least_in(one)] & two:
        return "under"
    return "above" if under[least_in(one)] & two else "beside"


def strong_modules(order):
    """Return the list, ascending, of the strong MODULES."""
    return sorted([pieces_in(mask) for _, mask, _ in strong_rows(fit_order(order))])


def is_cut(order, thing):
    """Tell whether thing is a CUT of order."""
    return is_cut_of(fit_order(order), thing)


def quotient(order, cut):
    """Return the ORDER with a piece for each MODULE of cut, in their order."""
    own = fit_order(order)
    inner = tupled(cut, 2)
    if not is_cut_of(own, inner):
        raise Unfit()
    return quotient_of(own, [mask_of(module) for module in inner])


def top_cut(order):
    """Return the CUT of the greatest strong MODULES but that of all; CanNot() without pieces."""
    own = fit_order(order)
    if own[0] == 0:
        raise CanNot()
    if own[0] == 1:
        return ((0,),)
    _, parts = parts_of(links_of(own), (1 << own[0]) - 1)
    return tuple([pieces_in(mask) for mask in parts])


def fit_module(order, module):
    """Return module with tuples for lists; Unfit() if it is no MODULE of order, known to be one."""
    own = tupled(module, 1)
    if not is_module_of(order, own):
        raise Unfit()
    return own


def fit_modules(order, module, other):
    """Return the masks of two; Unfit() if one is no MODULE of order, known to be one."""
    one = fit_module(order, module)
    return mask_of(one), mask_of(fit_module(order, other))


def is_module_of(order, thing):
    """Tell whether thing is a MODULE of an ORDER that is known to be one."""
    if not is_set_below(order[0], thing) or not thing:
        return False
    mask = mask_of(thing)
    return unlike_to(links_of(order), mask) & ~mask == 0


def modules_counted(rows):
    """Return how many MODULES there are, rows being those of the strong ones."""
    return len(rows) + sum([unions_counted(word, len(members)) for word, _, members in rows])


def unions_counted(word, many):
    """Return how many MODULES are put together of some, not all, of so many greatest ones."""
    if word == "beside":
        return (1 << many) - many - 2
    return many * (many - 1) // 2 - 1 if word == "stack" else 0


def modules_by(rows):
    """Return the list, ascending, of all MODULES, rows being those of the strong ones."""
    found = [mask for _, mask, _ in rows]
    for at, row in enumerate(rows):
        if row[0] == "beside":
            found.extend(lots_of(members_of(rows, at)))
        if row[0] == "stack":
            found.extend(runs_of(members_of(rows, at)))
    return sorted([pieces_in(mask) for mask in found])


def lots_of(parts):
    """Return the list of what two or more, not all, of parts are together."""
    found = [0]
    for mask in parts:
        found = found + [other | mask for other in found]
    single = set(parts)
    return [mask for mask in found[1:-1] if mask not in single]


def runs_of(parts):
    """Return the list of what two or more of parts in a row, not all, are together."""
    many = len(parts)
    return [sum(parts[begin:end]) for begin in range(many) for end in range(begin + 2, many + 1)
            if end - begin < many]


def masks_cross(one, two):
    """Tell whether two sets have something in common, and each something alone."""
    return one & two != 0 and one & ~two != 0 and two & ~one != 0


def is_cut_of(order, thing):
    """Tell whether thing is a CUT of an ORDER that is known to be one."""
    many, _ = order
    if not isinstance(thing, tuple) or not all([is_set_below(many, module) for module in thing]):
        return False
    if () in thing or not is_ascending(thing):
        return False
    # With as many pieces in all of them as in one or more, each is in just one.
    if sum([len(module) for module in thing]) != many or len({piece for module in thing for piece in module}) != many:
        return False
    return all([is_module_of(order, module) for module in thing])
