"""Papers of won and of lost lefts: what to answer at each left that can come."""

from eatenorders.bites import few_lefts, fit_left, is_left_of, masks_above
from eatenorders.errors import CanNot, Unfit
from eatenorders.forms import is_ascending, is_number, is_pair, tupled
from eatenorders.masks import bits_of, mask_of, pieces_in
from eatenorders.orders import fit_order
from eatenorders.worths import worths_by_mask


def answers(order, left):
    """Return ANSWERS of left, the least ones; CanNot() if left is won."""
    return answers_asked(order, left)


def least_answers(order, left):
    """Return the ANSWERS in which each piece is the least by which what is left is lost."""
    return answers_asked(order, left)


def is_answers(order, left, thing):
    """Tell whether thing are ANSWERS of left."""
    own = fit_order(order)
    there = fit_left(own, left)
    few_lefts(own)
    return are_answers(own, mask_of(there), thing)


def paper_of(order, left):
    """Return a PAPER of left: with the least piece that wins, and the least ANSWERS."""
    own = fit_order(order)
    mask = mask_of(fit_left(own, left))
    worths = worths_by_mask(own, few_lefts(own))
    if worths[mask] == 0:
        return None, answers_by(own, worths, mask)
    above = masks_above(own)
    bite = least_to_lost(above, worths, mask)
    return bite, answers_by(own, worths, mask & ~above[bite])


def is_paper(order, left, thing):
    """Tell whether thing is a PAPER of left."""
    own = fit_order(order)
    there = fit_left(own, left)
    few_lefts(own)
    if not is_pair(thing):
        return False
    bite, pairs = thing
    if bite is None:
        return are_answers(own, mask_of(there), pairs)
    if not is_number(bite) or bite not in there:
        return False
    return are_answers(own, mask_of(there) & ~masks_above(own)[bite], pairs)


def unanswered(order, left, pairs):
    """Return the set of the LEFTS come to that no pair names."""
    come, named = come_and_named(order, left, pairs)
    return tuple(sorted([pieces_in(mask) for mask in come if mask not in named]))


def needless(order, left, pairs):
    """Return the set of the lefts of pairs that are not come to."""
    come, named = come_and_named(order, left, pairs)
    return tuple(sorted([pieces_in(mask) for mask in named if mask not in come]))


def are_replies(order, thing):
    """Tell whether thing is REPLIES of order."""
    own = fit_order(order)
    few_lefts(own)
    return are_replies_of(own, thing)


def answers_asked(order, left):
    """Return the least ANSWERS of left, what is passed in being checked; CanNot() if it is won."""
    own = fit_order(order)
    mask = mask_of(fit_left(own, left))
    worths = worths_by_mask(own, few_lefts(own))
    if worths[mask] > 0:
        raise CanNot()
    return answers_by(own, worths, mask)


def answers_by(order, worths, mask):
    """Return the least ANSWERS of the lost LEFT of this mask, worths being those of all masks."""
    above = masks_above(order)
    named = {}
    waiting = [mask]
    while waiting:
        here = waiting.pop()
        for come in masks_behind(above, here):
            if come not in named:
                named[come] = least_to_lost(above, worths, come)
                waiting.append(come & ~above[named[come]])
    return tuple(sorted([(pieces_in(come), piece) for come, piece in named.items()]))


def least_to_lost(above, worths, mask):
    """Return the least piece at which a BITE leaves a lost LEFT, of the won one of this mask."""
    return [piece for piece in bits_of(mask) if worths[mask & ~above[piece]] == 0][0]


def masks_behind(above, mask):
    """Return the list of the masks of what each BITE leaves."""
    return [mask & ~above[piece] for piece in bits_of(mask)]


def are_replies_of(order, thing):
    """Tell whether thing is REPLIES of an ORDER that is known to be one."""
    if not isinstance(thing, tuple) or not all([is_reply_of(order, pair) for pair in thing]):
        return False
    # With no left twice the pairs ascend exactly if their lefts do.
    return is_ascending([left for left, _ in thing])


def is_reply_of(order, thing):
    """Tell whether thing is a pair of a LEFT and one of its pieces."""
    return is_pair(thing) and is_left_of(order, thing[0]) and is_number(thing[1]) and thing[1] in thing[0]


def are_answers(order, mask, thing):
    """Tell whether thing are ANSWERS of the LEFT of this mask."""
    if not are_replies_of(order, thing):
        return False
    named = named_by(thing)
    return sorted(named) == sorted(masks_come_to(order, mask, named))


def come_and_named(order, left, pairs):
    """Return the masks that are come to, and the dict of the pieces by the masks that are named."""
    own = fit_order(order)
    there = fit_left(own, left)
    replies = tupled(pairs, 3)
    if not are_replies_of(own, replies):
        raise Unfit()
    few_lefts(own)
    named = named_by(replies)
    return masks_come_to(own, mask_of(there), named), named


def named_by(pairs):
    """Return the dict of the pieces of REPLIES by the masks of their lefts."""
    return {mask_of(left): piece for left, piece in pairs}


def masks_come_to(order, mask, named):
    """Return the dict of the masks of the LEFTS that are come to from that of mask."""
    above = masks_above(order)
    found = {}
    waiting = [mask]
    while waiting:
        here = waiting.pop()
        for come in masks_behind(above, here):
            if come not in found:
                found[come] = True
                if come in named:
                    waiting.append(come & ~above[named[come]])
    return found
