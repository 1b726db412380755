"""The game in which who takes the last piece has lost (a misere game)."""

from eatenorders.bites import few_lefts, fit_left, masks_above
from eatenorders.errors import CanNot
from eatenorders.forms import is_number, is_pair
from eatenorders.masks import bits_of, mask_of, pieces_in
from eatenorders.orders import fit_order, least_of, part_of
from eatenorders.papers import are_replies_of, masks_behind, named_by
from eatenorders.worths import worths_by_mask


def last_won(order, left):
    """Tell whether left is last-won."""
    own = fit_order(order)
    there = mask_of(fit_left(own, left))
    return last_won_by_mask(own, few_lefts(own))[there]


def last_bites(order, left):
    """Return the set of the pieces of left at which a BITE leaves a last-lost LEFT."""
    own = fit_order(order)
    there = mask_of(fit_left(own, left))
    return bites_to_lost(masks_above(own), last_won_by_mask(own, few_lefts(own)), there)


def last_lost_lefts(order):
    """Return the list, ascending, of all last-lost LEFTS."""
    own = fit_order(order)
    rows = few_lefts(own)
    won = last_won_by_mask(own, rows)
    return sorted([left for mask, left in rows if not won[mask]])


def turned_lefts(order):
    """Return the list, ascending, of all LEFTS that are last-won but lost, or last-lost but won."""
    own = fit_order(order)
    rows = few_lefts(own)
    won = last_won_by_mask(own, rows)
    worths = worths_by_mask(own, rows)
    return sorted([left for mask, left in rows if won[mask] != (worths[mask] > 0)])


def last_answers(order, left):
    """Return LAST ANSWERS of left, those of the least pieces; CanNot() if it is last-won."""
    own = fit_order(order)
    there = mask_of(fit_left(own, left))
    won = last_won_by_mask(own, few_lefts(own))
    if won[there]:
        raise CanNot()
    return last_answers_by(masks_above(own), won, there)


def is_last_answers(order, left, thing):
    """Tell whether thing are LAST ANSWERS of left."""
    own = fit_order(order)
    there = mask_of(fit_left(own, left))
    return are_last_answers(own, there, thing)


def last_paper(order, left):
    """Return a LAST PAPER of left, that of the least pieces; CanNot() if it is last-lost, or ()."""
    own = fit_order(order)
    there = mask_of(fit_left(own, left))
    won = last_won_by_mask(own, few_lefts(own))
    above = masks_above(own)
    found = bites_to_lost(above, won, there)
    if not found:
        raise CanNot()
    return found[0], last_answers_by(above, won, there & ~above[found[0]])


def is_last_paper(order, left, thing):
    """Tell whether thing is a LAST PAPER of left."""
    own = fit_order(order)
    there = fit_left(own, left)
    if not is_pair(thing) or not is_number(thing[0]) or thing[0] not in there:
        return False
    return are_last_answers(own, mask_of(there) & ~masks_above(own)[thing[0]], thing[1])


def without_least(order):
    """Return the ORDER of all pieces but the one that lies under all others; CanNot() without."""
    own = fit_order(order)
    # The only least piece lies under all others.
    if len(least_of(own)) != 1:
        raise CanNot()
    return part_of(own, tuple(range(1, own[0])))


def last_won_by_mask(order, rows):
    """Return the dict of whether each LEFT, told by its mask, is last-won, rows as few_lefts tells them."""
    above = masks_above(order)
    won = {}
    for mask, left in rows:
        won[mask] = not left or not all([won[mask & ~above[piece]] for piece in left])
    return won


def bites_to_lost(above, won, mask):
    """Return the set of the pieces at which a BITE leaves a last-lost LEFT, of the one of this mask."""
    return tuple([piece for piece in bits_of(mask) if not won[mask & ~above[piece]]])


def last_answers_by(above, won, mask):
    """Return the LAST ANSWERS, with the least pieces, of the last-lost LEFT of this mask."""
    named = {}
    waiting = [mask]
    while waiting:
        here = waiting.pop()
        for what in masks_behind(above, here):
            if what != 0 and what not in named:
                named[what] = bites_to_lost(above, won, what)[0]
                waiting.append(what & ~above[named[what]])
    return tuple(sorted([(pieces_in(what), piece) for what, piece in named.items()]))


def are_last_answers(order, mask, thing):
    """Tell whether thing are LAST ANSWERS of the LEFT of this mask."""
    if not are_replies_of(order, thing):
        return False
    above = masks_above(order)
    named = named_by(thing)
    come = [mask] + [what & ~above[piece] for what, piece in named.items()]
    if 0 in come:
        return False
    return all([what == 0 or what in named for own in come for what in masks_behind(above, own)])
