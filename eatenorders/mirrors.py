"""Mirrors of an order, and its top and bottom: what wins without a search."""

from eatenorders.bites import check_left_piece, fit_left, gone_with, left_without
from eatenorders.errors import CanNot, TooMany, Unfit
from eatenorders.forms import fit_number, is_row_below, tupled
from eatenorders.mirroring import all_mirrors
from eatenorders.orders import fit_order, greatest_of, least_of, part_of
from eatenorders.worths import worth

MOST_MIRRORS = 2000


def mirrors(order):
    """Return the list, ascending, of all MIRRORS; TooMany() above 2,000."""
    return few_mirrors(fit_order(order))


def is_mirror(order, thing):
    """Tell whether thing is a MIRROR of order."""
    return is_mirror_of(fit_order(order), thing)


def stays(order, mirror):
    """Return the set of the pieces that stay."""
    return staying_in(fit_mirror(fit_order(order), mirror))


def moved_pairs(order, mirror):
    """Return the set of the pairs (piece, image), piece less than image."""
    own = fit_mirror(fit_order(order), mirror)
    return tuple([(piece, image) for piece, image in enumerate(own) if piece < image])


def staying_order(order, mirror):
    """Return the ORDER of the pieces that stay."""
    return staying_part(order, mirror)


def is_even(order, mirror, left):
    """Tell whether left has with each piece its image."""
    own = fit_order(order)
    images = fit_mirror(own, mirror)
    return is_even_left(images, fit_left(own, left))


def mirror_reply(order, mirror, left, piece):
    """Return the image of piece, the answer to the BITE at it; CanNot() if it stays."""
    _, images, _ = fit_even(order, mirror, left, piece)
    if images[piece] == piece:
        raise CanNot()
    return images[piece]


def mirror_left(order, mirror, left, piece):
    """Return what remains of left behind the BITE at piece and that at its image."""
    own, images, there = fit_even(order, mirror, left, piece)
    gone = gone_with(own, there, piece) + gone_with(own, there, images[piece])
    return left_without(there, gone)


def worth_by_mirror(order, mirror):
    """Return the WORTH of order, told by that of the pieces that stay; TooMany() as of these."""
    return worth(staying_part(order, mirror))


def fewest_stay(order):
    """Return how many pieces stay by a MIRROR at the fewest."""
    return len(staying_in(best_of(few_mirrors(fit_order(order)))))


def best_mirror(order):
    """Return a MIRROR by which the fewest pieces stay, the least one."""
    return best_of(few_mirrors(fit_order(order)))


def is_best_mirror(order, thing):
    """Tell whether thing is a MIRROR by which the fewest pieces stay."""
    own = fit_order(order)
    best = best_of(few_mirrors(own))
    return is_mirror_of(own, thing) and len(staying_in(thing)) == len(staying_in(best))


def top(order):
    """Return the piece above all others; CanNot() without."""
    return only_one(greatest_of(fit_order(order)))


def bottom(order):
    """Return the piece under all others; CanNot() without."""
    return only_one(least_of(fit_order(order)))


def worth_by_bottom(order):
    """Return the WORTH of an order with a bottom, told by that of the other pieces."""
    own = fit_order(order)
    lowest = only_one(least_of(own))
    return 1 + worth(part_of(own, tuple([piece for piece in range(own[0]) if piece != lowest])))


def few_mirrors(order):
    """Return the list, ascending, of all MIRRORS of an ORDER that is known to be one; TooMany() above 2,000."""
    found = all_mirrors(order, MOST_MIRRORS)
    if len(found) > MOST_MIRRORS:
        raise TooMany()
    return sorted(found)


def best_of(found):
    """Return the least of the MIRRORS by which the fewest pieces stay."""
    return min([(len(staying_in(mirror)), mirror) for mirror in found])[1]


def is_mirror_of(order, thing):
    """Tell whether thing is a MIRROR of an ORDER that is known to be one."""
    many, ties = order
    if not isinstance(thing, tuple) or len(thing) != many or not is_row_below(many, thing):
        return False
    if not all([thing[image] == piece for piece, image in enumerate(thing)]):
        return False
    # As many ties come out as go in, so it is enough that each of them is one.
    if sorted([(thing[low], thing[high]) for low, high in ties]) != list(ties):
        return False
    return all([thing[low] == low for low, high in ties if thing[high] == high])


def fit_mirror(order, mirror):
    """Return mirror with tuples for lists; Unfit() if it is no MIRROR of order."""
    own = tupled(mirror, 1)
    if not is_mirror_of(order, own):
        raise Unfit()
    return own


def fit_even(order, mirror, left, piece):
    """Return order, mirror, left, all four arguments being checked, and that left is even and has piece."""
    own = fit_order(order)
    images = fit_mirror(own, mirror)
    there = fit_left(own, left)
    fit_number(piece)
    if not is_even_left(images, there):
        raise Unfit()
    check_left_piece(there, piece)
    return own, images, there


def is_even_left(mirror, left):
    """Tell whether left has with each piece its image."""
    there = set(left)
    return all([mirror[piece] in there for piece in left])


def staying_in(mirror):
    """Return the set of the pieces that stay."""
    return tuple([piece for piece, image in enumerate(mirror) if piece == image])


def staying_part(order, mirror):
    """Return the ORDER of the pieces that stay, what is passed in being checked."""
    own = fit_order(order)
    return part_of(own, staying_in(fit_mirror(own, mirror)))


def only_one(pieces):
    """Return the one of pieces; CanNot() if there are none, or more.

    The only least piece of an ORDER lies under all others, the only greatest one above them.
    """
    if len(pieces) != 1:
        raise CanNot()
    return pieces[0]
