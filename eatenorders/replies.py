"""Replies to plays, whole plays counted and numbered, and how long they last."""

from eatenorders.bites import few_lefts, fit_left, fit_play, left_by_play, masks_above
from eatenorders.errors import Broken, CanNot
from eatenorders.forms import fit_number, is_number
from eatenorders.masks import bits_of, mask_of
from eatenorders.orders import fit_order
from eatenorders.worths import pieces_to, worth_and_bites


def replies(order, play):
    """Return the set of the pieces at which a BITE behind play leaves a lost LEFT."""
    return replies_asked(order, play)


def reply(order, play):
    """Return the least piece at which a BITE behind play leaves a lost LEFT; CanNot() without."""
    found = replies_asked(order, play)
    if not found:
        raise CanNot()
    return found[0]


def is_reply(order, play, thing):
    """Tell whether thing is a piece at which a BITE behind play leaves a lost LEFT."""
    found = replies_asked(order, play)
    return is_number(thing) and thing in found


def how_many_plays(order, left):
    """Return how many whole PLAYS there are from left."""
    own = fit_order(order)
    there = mask_of(fit_left(own, left))
    return plays_by_mask(own)[there]


def plays_by_length(order, left):
    """Return the tuple of the pairs of a number of BITES and how many whole PLAYS have so many."""
    return lengths_asked(order, left)


def plays_won(order, left):
    """Return of how many whole PLAYS from left who begins takes the last piece."""
    return sum([plays for bites, plays in lengths_asked(order, left) if bites % 2 == 1])


def play_drawn(order, number):
    """Return the whole PLAY with this number; Broken(number) if there is none."""
    own = fit_order(order)
    fit_number(number)
    plays = plays_by_mask(own)
    there = (1 << own[0]) - 1
    if not 0 <= number < plays[there]:
        raise Broken(number)
    above = masks_above(own)
    play = ()
    ahead = number
    while there:
        piece, ahead = bite_drawn(plays, above, there, ahead)
        play += (piece,)
        there &= ~above[piece]
    return play


def play_number(order, play):
    """Return the number of play; CanNot() if it is not whole."""
    own = fit_order(order)
    bites = fit_play(own, play)
    plays = plays_by_mask(own)
    above = masks_above(own)
    there = (1 << own[0]) - 1
    number = 0
    for bite in bites:
        number += sum([plays[there & ~above[piece]] for piece in bits_of(there) if piece < bite])
        there &= ~above[bite]
    if there:
        raise CanNot()
    return number


def hurried(order, left):
    """Return how many BITES it takes from left on if it is hurried."""
    return lasting(order, left, True)[0]


def dragged(order, left):
    """Return how many BITES it takes from left on if it is dragged."""
    return lasting(order, left, False)[0]


def hurrying(order, left):
    """Return the set of the pieces of left by which whoever is to bite hurries."""
    return lasting(order, left, True)[1]


def dragging(order, left):
    """Return the set of the pieces of left by which whoever is to bite drags."""
    return lasting(order, left, False)[1]


def replies_asked(order, play):
    """Return the set of the replies to play, what is passed in being checked."""
    own = fit_order(order)
    behind = left_by_play(own, fit_play(own, play))
    return pieces_to(worth_and_bites(own, behind), 0)


def plays_by_mask(order):
    """Return the dict of how many whole PLAYS there are from each LEFT, told by its mask."""
    above = masks_above(order)
    plays = {}
    for mask, left in few_lefts(order):
        plays[mask] = sum([plays[mask & ~above[piece]] for piece in left]) if left else 1
    return plays


def bite_drawn(plays, above, mask, number):
    """Return the first BITE of the whole PLAY of this number from a LEFT, and the number of the rest."""
    ahead = number
    for piece in bits_of(mask):
        behind = plays[mask & ~above[piece]]
        if ahead < behind:
            return piece, ahead
        ahead -= behind
    raise Broken(number)


def lengths_asked(order, left):
    """Return the pairs of lengths and numbers of whole PLAYS, what is passed in being checked."""
    own = fit_order(order)
    there = mask_of(fit_left(own, left))
    above = masks_above(own)
    lengths = {}
    for mask, inner in few_lefts(own):
        if mask & there == mask:
            lengths[mask] = one_longer([lengths[mask & ~above[piece]] for piece in inner], len(inner))
    return tuple([(bites, plays) for bites, plays in enumerate(lengths[there]) if plays > 0])


def one_longer(counts, most):
    """Return how many PLAYS have each length from 0 to most, by those behind the first BITE."""
    found = [0] * (most + 1)
    for count in counts:
        for bites, plays in enumerate(count):
            found[bites + 1] += plays
    if most == 0:
        found[0] = 1
    return found


def lasting(order, left, hurry):
    """Return how many BITES it takes from left on, hurried or dragged, and by which pieces."""
    own = fit_order(order)
    there = fit_left(own, left)
    above = masks_above(own)
    lasts = {}
    for mask, inner in few_lefts(own):
        lasts[mask] = last_with([lasts[mask & ~above[piece]] for piece in inner], hurry)
    mask = mask_of(there)
    # With one BITE less the other one is to bite, so what is left is lost if this one is won.
    return lasts[mask], tuple([piece for piece in there if lasts[mask & ~above[piece]] == lasts[mask] - 1])


def last_with(behind, hurry):
    """Return how many BITES it takes, by those that it takes behind each first BITE.

    These are odd exactly for what is won.
    """
    if not behind:
        return 0
    lost = [bites for bites in behind if bites % 2 == 0]
    if lost:
        return 1 + (min(lost) if hurry else max(lost))
    return 1 + (max(behind) if hurry else min(behind))
