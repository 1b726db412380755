"""Worths of great orders, reckoned along the tree of their strong modules."""

from eatenorders.bites import fit_left
from eatenorders.decomposing import members_of, quotient_of, strong_rows
from eatenorders.errors import CanNot, TooMany
from eatenorders.masks import least_in, mask_of
from eatenorders.orders import fit_order, order_with_piece
from eatenorders.primes import widest_in
from eatenorders.searching import search_in, worth_bitten, worth_of_parts
from eatenorders.sets import lacking_at, least_lacking, stacked_sets

WIDEST_SEARCHED = 10


def great_set(order):
    """Return the SET of order."""
    return set_reckoned(fit_order(order))


def great_worth(order):
    """Return the WORTH of order."""
    return least_lacking(set_reckoned(fit_order(order)))


def great_left(order, left):
    """Return the WORTH of left."""
    own = fit_order(order)
    there = mask_of(fit_left(own, left))
    rows = strong_rows(own)
    return worth_of_rest(rows, reckoned(own, rows), there)


def great_after(order, piece):
    """Return the WORTH that the first BITE at piece leaves."""
    return worths_after(order_with_piece(order, piece))[piece]


def great_bites(order):
    """Return the set of the pieces at which a first BITE leaves WORTH 0."""
    return bites_reckoned(fit_order(order))


def great_bite(order):
    """Return the least piece at which a first BITE leaves WORTH 0; CanNot() without."""
    found = bites_reckoned(fit_order(order))
    if not found:
        raise CanNot()
    return found[0]


def set_reckoned(order):
    """Return the SET of an ORDER that is known to be one; TooMany() if a PRIME part is too wide."""
    rows = strong_rows(order)
    told = reckoned(order, rows)
    return told[0][0] if rows else ()


def bites_reckoned(order):
    """Return the set of the pieces of a known ORDER at which a first BITE leaves WORTH 0."""
    worths = worths_after(order)
    return tuple([piece for piece in range(order[0]) if worths[piece] == 0])


def worths_after(order):
    """Return the dict of the WORTH that the first BITE at each piece of a known ORDER leaves."""
    rows = strong_rows(order)
    told = reckoned(order, rows)
    found = {}
    for at in range(len(rows) - 1, -1, -1):
        word, mask, members = rows[at]
        own = {} if members else {least_in(mask): 0}
        for place, member in enumerate(members):
            behind = {number: worth_behind(word, told[at][1], place, number) for number in told[member][0]}
            for piece, number in found[member].items():
                own[piece] = behind[number]
        found[at] = own
    return found[0] if rows else {}


def reckoned(order, rows):
    """Return the dict, by the places of rows, of what is reckoned of the strong MODULES.

    For each it is the pair of its SET, and of what a BITE in one of its members is reckoned by.
    """
    if widest_in(rows) > WIDEST_SEARCHED:
        raise TooMany()
    told = {}
    for at in range(len(rows) - 1, -1, -1):
        word, _, members = rows[at]
        sets = [told[member][0] for member in members]
        if word == "":
            told[at] = ((0,), None)
        else:
            means = means_of(word, quotient_of(order, members_of(rows, at)), sets)
            told[at] = (set_by_means(word, means, sets), means)
    return told


def means_of(word, quotient, sets):
    """Return what a BITE in a member is reckoned by, sets being the SETS of the members.

    Beside one another: the list of the WORTHS of all others. Stacked: the list of the SETS of all
    below. PRIME: a search.
    """
    if word == "prime":
        return search_in(quotient, sets)
    if word == "stack":
        below = [()]
        for own in sets:
            below.append(stacked_sets(below[-1], own))
        return below
    total = 0
    for own in sets:
        total ^= least_lacking(own)
    return [total ^ least_lacking(own) for own in sets]


def set_by_means(word, means, sets):
    """Return the SET of a strong MODULE, sets being the SETS of its members."""
    found = {worth_behind(word, means, place, number) for place, own in enumerate(sets) for number in own}
    return tuple(sorted(found))


def worth_behind(word, means, place, number):
    """Return the WORTH of a strong MODULE behind a first BITE that leaves number of the member there."""
    if word == "beside":
        return means[place] ^ number
    if word == "stack":
        return lacking_at(means[place], (number,))[0]
    return worth_bitten(means, place, number)


def worth_of_rest(rows, told, there):
    """Return the WORTH of a LEFT, told by its mask."""
    worths = {}
    for at in range(len(rows) - 1, -1, -1):
        word, mask, members = rows[at]
        if there & mask == mask:
            worths[at] = least_lacking(told[at][0])
        else:
            wholes = [there & rows[member][1] == rows[member][1] for member in members]
            parts = [worths[member] for member in members]
            worths[at] = worth_together(word, told[at][1], wholes, parts)
    return worths.get(0, 0)


def worth_together(word, means, wholes, parts):
    """Return the WORTH of what is left of a strong MODULE, not all of it, by its members.

    Of each it is told whether it is whole, and the WORTH of what is left of it.
    """
    if word == "prime":
        return worth_of_parts(means, wholes, parts)
    if word == "stack":
        # Above the first that is not whole nothing is left.
        place = wholes.index(False)
        return lacking_at(means[place], (parts[place],))[0]
    total = 0
    for own in parts:
        total ^= own
    return total
