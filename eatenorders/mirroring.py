"""The search of all MIRRORS: what is still possible for each piece is kept as a mask of images.

A state is a pair of the list of these masks, and the mask of the settled pieces: all that follows
from the image of a settled one is taken from the masks already.
"""

from eatenorders.alike import first_domains, narrowed
from eatenorders.decomposing import knots_in
from eatenorders.masks import bits_of, how_many_in, links_of


def all_mirrors(order, most):
    """Return the list of all MIRRORS; of more than most only some, but more than most."""
    links = links_of(order)
    found = []
    waiting = [((first_domains(order[0], links), 0), [])]
    while waiting and len(found) <= most:
        before, steps = waiting.pop()
        state = settled_on(links, before, steps)
        if state is not None:
            domains, settled = state
            piece = next_to_settle(links, domains, settled)
            if piece is None:
                found.append(tuple([mask.bit_length() - 1 for mask in domains]))
            else:
                waiting.extend([(state, [(piece, image)]) for image in images_tried(domains, piece)])
    return found


def images_tried(domains, piece):
    """Return the list of what is possible for piece, that it stays at the end, as the first tried."""
    others = bits_of(domains[piece] & ~(1 << piece))
    return others + [piece] if (domains[piece] >> piece) & 1 else others


def settled_on(links, state, steps):
    """Return the state once these images, and all that follows, are settled; None if they cannot be."""
    domains, settled = state
    waiting = list(steps)
    while True:
        if not waiting:
            domains = without_staying(links, domains)
            waiting = [(piece, mask.bit_length() - 1) for piece, mask in enumerate(domains)
                       if mask & (mask - 1) == 0 and not (settled >> piece) & 1]
        if 0 in domains:
            return None
        if not waiting:
            return None if some_knot_is_odd(domains, settled) else (domains, settled)
        piece, image = waiting.pop()
        domains = narrowed(links, narrowed(links, domains, piece, image), image, piece)
        if piece == image and not (settled >> piece) & 1:
            waiting.extend([(low, low) for low in bits_of(links[1][piece])])
        settled |= (1 << piece) | (1 << image)


def without_staying(links, domains):
    """Return what is possible for each piece once none stays that lies above one that cannot stay."""
    moved = 0
    for piece, mask in enumerate(domains):
        if not (mask >> piece) & 1:
            moved |= links[0][piece]
    return [mask & ~(moved & (1 << piece)) for piece, mask in enumerate(domains)]


def some_knot_is_odd(domains, settled):
    """Tell whether an odd number of pieces, none of which can stay, would have to change places."""
    rest = ((1 << len(domains)) - 1) & ~settled
    moving = [piece for piece in bits_of(rest) if not (domains[piece] >> piece) & 1]
    if not moving:
        return False
    able = rest & ~sum([1 << piece for piece in moving])
    return any([how_many_in(knot) % 2 == 1 and knot & able == 0 for knot in knots_in(domains, rest)])


def next_to_settle(links, domains, settled):
    """Return the piece to be settled next, None if all are.

    It has few images, or lies above such a one, but under none that is to be settled: where one
    stays, all that lies under it is settled with it.
    """
    rest = ((1 << len(domains)) - 1) & ~settled
    piece = None
    while rest:
        piece = -min([(how_many_in(domains[own]), -own) for own in bits_of(rest)])[1]
        rest = links[0][piece] & ~settled
    return piece
