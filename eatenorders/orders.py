"""Orders: what lies under what, and what is read off that."""

from eatenorders.errors import NoPiece, Unfit
from eatenorders.forms import fit_number, fit_number_from, is_ascending, is_number
from eatenorders.forms import is_number_from, is_pair, is_set_below, tupled


def is_order(thing):
    """Tell whether thing is an ORDER."""
    if not is_pair(thing) or not is_number_from(0, thing[0]):
        return False
    many, ties = thing
    return are_pairs(many, ties) and is_ascending(ties) and not some_follow(ties)


def is_piece(order, thing):
    """Tell whether thing is a piece of order."""
    many, _ = fit_order(order)
    return is_number_from(0, thing) and thing < many


def by_pairs(many, pairs):
    """Return the ORDER of many pieces in which low lies under high for each of pairs."""
    fit_number_from(0, many)
    own = tupled(pairs, 2)
    if not are_pairs(many, own):
        raise Unfit()
    return order_led_by(many, own)


def pairs_of(order):
    """Return the set of the pairs (low, high) of which low lies under high."""
    many, ties = fit_order(order)
    upper = ties_up(ties)
    return tuple([(low, high) for low in range(many) for high in led_to(upper, low, many)])


def is_under(order, piece, other):
    """Tell whether piece lies under other."""
    own = fit_order(order)
    fit_number(piece)
    fit_number(other)
    check_piece(own, piece)
    check_piece(own, other)
    return other in led_to(ties_up(own[1]), piece, own[0])


def under(order, piece):
    """Return the set of the pieces under piece."""
    many, ties = order_with_piece(order, piece)
    return led_to(ties_down(ties), piece, many)


def above(order, piece):
    """Return the set of the pieces above piece."""
    many, ties = order_with_piece(order, piece)
    return led_to(ties_up(ties), piece, many)


def beside_of(order, piece):
    """Return the set of the pieces beside piece."""
    many, ties = order_with_piece(order, piece)
    near = set(led_to(ties_down(ties), piece, many) + (piece,) + led_to(ties_up(ties), piece, many))
    return tuple([other for other in range(many) if other not in near])


def least_pieces(order):
    """Return the set of the pieces with none under them."""
    return least_of(fit_order(order))


def greatest_pieces(order):
    """Return the set of the pieces with none above them."""
    return greatest_of(fit_order(order))


def part(order, pieces):
    """Return the ORDER of pieces alone, numbered from 0 as they come."""
    own = fit_order(order)
    return part_of(own, fit_pieces(own, pieces))


def levels(order):
    """Return the tuple of the most ties, one behind another, up to each piece."""
    return levels_of(fit_order(order))


def height(order):
    """Return how many pieces can stand in one row, each under the next one."""
    return max([level + 1 for level in levels_of(fit_order(order))], default=0)


def knots(order):
    """Return the set of the sets of pieces that hang together by ties."""
    many, ties = fit_order(order)
    tied = ties_up(ties + tuple([(high, low) for low, high in ties]))
    seen = {}
    found = []
    for piece in range(many):
        if piece not in seen:
            seen[piece] = True
            found.append(tuple(sorted((piece,) + mark_led_to(tied, piece, many, seen))))
    return tuple(found)


def fit_order(order):
    """Return order with tuples for lists; Unfit() if it is no ORDER."""
    own = tupled(order, 3)
    if not is_order(own):
        raise Unfit()
    return own


def fit_pieces(order, pieces):
    """Return pieces with tuples for lists; Unfit() if they are no set of pieces of order."""
    own = tupled(pieces, 1)
    if not is_set_below(order[0], own):
        raise Unfit()
    return own


def check_piece(order, piece):
    """NoPiece(piece) if piece, a number, is no piece of order."""
    if not 0 <= piece < order[0]:
        raise NoPiece(piece)


def order_with_piece(order, piece):
    """Return order with tuples for lists, if it is one and has piece."""
    own = fit_order(order)
    fit_number(piece)
    check_piece(own, piece)
    return own


def are_pairs(many, thing):
    """Tell whether thing is a tuple of pairs (low, high) of pieces of many, low less."""
    if not isinstance(thing, tuple):
        return False
    return all([is_pair_below(many, pair) for pair in thing])


def is_pair_below(many, thing):
    """Tell whether thing is a pair (low, high) of numbers from 0 below many, low less."""
    if not is_pair(thing) or not is_number_from(0, thing[0]) or not is_number(thing[1]):
        return False
    return thing[0] < thing[1] < many


def some_follow(ties):
    """Tell whether one of ties follows from others."""
    upper = ties_up(ties)
    for low, highs in upper.items():
        if without_following(upper, highs) != highs:
            return True
    return False


def ties_up(ties):
    """Return the dict of the lists of what ties lead to from each piece."""
    upper = {}
    for low, high in ties:
        upper.setdefault(low, []).append(high)
    return upper


def ties_down(ties):
    """Return the dict of the lists of what is tied right under each piece."""
    return ties_up([(high, low) for low, high in ties])


def mark_led_to(next_to, piece, top, seen):
    """Mark in seen all up to top that is led to from piece; return what was not marked.

    Nothing is looked for behind what is marked already.
    """
    found = []
    waiting = [piece]
    while waiting:
        here = waiting.pop()
        for other in next_to.get(here, ()):
            if other <= top and other not in seen:
                seen[other] = True
                found.append(other)
                waiting.append(other)
    return tuple(found)


def led_to(next_to, piece, many):
    """Return the set of all pieces, of so many, that are led to from piece."""
    return tuple(sorted(mark_led_to(next_to, piece, many, {})))


def without_following(upper, highs):
    """Return the list of those of highs, ascending, that no lesser one leads to."""
    # What lies above the greatest of them leads to none of them: no need to go there.
    top = highs[-1]
    seen = {}
    kept = []
    for high in highs:
        if high not in seen:
            kept.append(high)
            if high < top:
                mark_led_to(upper, high, top, seen)
    return kept


def order_led_by(many, pairs):
    """Return the ORDER of many pieces that pairs, maybe more than its ties, lead to."""
    upper = ties_up(sorted(set(pairs)))
    kept = {}
    for low in sorted(upper, reverse=True):
        kept[low] = without_following(kept, upper[low])
    return many, tuple([(low, high) for low in sorted(kept) for high in kept[low]])


def least_of(order):
    """Return the set of the least pieces of an ORDER that is known to be one."""
    lower = ties_down(order[1])
    return tuple([piece for piece in range(order[0]) if piece not in lower])


def greatest_of(order):
    """Return the set of the greatest pieces of an ORDER that is known to be one."""
    upper = ties_up(order[1])
    return tuple([piece for piece in range(order[0]) if piece not in upper])


def part_of(order, pieces):
    """Return the ORDER of a set of pieces of an ORDER, both known to be such."""
    many, ties = order
    upper = ties_up(ties)
    place = {piece: at for at, piece in enumerate(pieces)}
    pairs = [(place[low], place[high])
             for low in pieces for high in led_to(upper, low, many) if high in place]
    return order_led_by(len(pieces), pairs)


def levels_of(order):
    """Return the levels of the pieces of an ORDER that is known to be one."""
    many, ties = order
    found = [0] * many
    # Ties ascend, so the level of a low piece is settled before it leads on.
    for low, high in ties:
        found[high] = max(found[high], found[low] + 1)
    return tuple(found)
