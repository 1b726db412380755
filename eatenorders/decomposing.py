"""The strong MODULES of an order, from that of all pieces down to single ones."""

from eatenorders.masks import bits_of, least_in, links_of
from eatenorders.orders import part_of


def strong_rows(order):
    """Return the list of the rows of the strong MODULES, each ahead of those within it.

    A row is a triple: the word that stands there ("" for one piece), the mask, and the list of
    the places of the rows of the greatest ones within it, by their least pieces.
    """
    many = order[0]
    links = links_of(order)
    rows = []
    waiting = [((1 << many) - 1, None)] if many > 0 else []
    while waiting:
        mask, outer = waiting.pop()
        if outer is not None:
            rows[outer][2].append(len(rows))
        word, parts = parts_of(links, mask)
        waiting.extend([(inner, len(rows)) for inner in reversed(parts)])
        rows.append((word, mask, []))
    return rows


def members_of(rows, at):
    """Return the list of the masks of the greatest strong MODULES within that of this row."""
    return [rows[member][1] for member in rows[at][2]]


def quotient_of(order, masks):
    """Return the ORDER with a piece for each of masks, of MODULES by their least pieces."""
    # As one piece of a MODULE lies to what is none of it, so does the whole.
    return part_of(order, tuple([least_in(mask) for mask in masks]))


def is_prime_order(order):
    """Tell whether an ORDER that is known to be one is PRIME."""
    many = order[0]
    # Fewer than four pieces always lie all beside one another, or stacked, in parts.
    word, parts = parts_of(links_of(order), (1 << many) - 1)
    return word == "prime" and len(parts) == many


def parts_of(links, mask):
    """Return the word of a strong MODULE, and the list of the greatest ones within it.

    They are told by their masks, and come by their least pieces.
    """
    if mask & (mask - 1) == 0:
        return "", []
    tied = [high | low for high, low in zip(links[0], links[1])]
    knots = knots_in(tied, mask)
    if len(knots) > 1:
        return "beside", knots
    layers = knots_in([~near for near in tied], mask)
    if len(layers) > 1:
        return "stack", layers
    return "prime", prime_parts_in(links, mask)


def knots_in(near, mask):
    """Return the list of the masks of what hangs together of mask, near telling what is next to each."""
    found = []
    rest = mask
    while rest:
        knot = 0
        edge = rest & -rest
        while edge:
            knot |= edge
            next_to = 0
            for piece in bits_of(edge):
                next_to |= near[piece]
            edge = next_to & mask & ~knot
        found.append(knot)
        rest &= ~knot
    return found


def prime_parts_in(links, mask):
    """Return the list of the masks of the greatest strong MODULES within a "prime" one.

    One of them has the least piece; each other one is a greatest MODULE without this piece. The
    rest of such greatest ones lie, with the least piece, in a MODULE that is not all.
    """
    first = mask & -mask
    own = first
    others = []
    for apart in apart_from(links, mask, least_in(first)):
        if module_with(links, first | (apart & -apart), mask) == mask:
            others.append((apart & -apart, apart))
        else:
            own |= apart
    return [own] + [apart for _, apart in sorted(others)]


def apart_from(links, mask, piece):
    """Return the list of the masks of the greatest MODULES without piece, of the pieces of mask."""
    found = []
    waiting = split_by(links, mask & ~(1 << piece), piece)
    while waiting:
        apart = waiting.pop()
        unlike = unlike_to(links, apart) & mask & ~apart
        if unlike:
            waiting.extend(split_by(links, apart, least_in(unlike)))
        else:
            found.append(apart)
    return found


def split_by(links, mask, piece):
    """Return the list of the masks of those of mask that lie above, under, beside piece, none 0."""
    high = mask & links[0][piece]
    low = mask & links[1][piece]
    return [side for side in (high, low, mask & ~high & ~low) if side]


def unlike_to(links, mask):
    """Return the mask of the pieces to which those of mask lie unlike, some of mask maybe."""
    return unlike_in(sight_with(links, mask, (0, -1, 0, -1)))


def module_with(links, mask, within):
    """Return the mask of the least MODULE that has all of mask, of the pieces of within."""
    found = mask
    sight = sight_with(links, mask, (0, -1, 0, -1))
    more = unlike_in(sight) & within & ~found
    while more:
        found |= more
        sight = sight_with(links, more, sight)
        more = unlike_in(sight) & within & ~found
    return found


def sight_with(links, mask, sight):
    """Return what lies above some, above all, under some, under all, with the pieces of mask, too."""
    above_some, above_all, under_some, under_all = sight
    for piece in bits_of(mask):
        high = links[0][piece]
        low = links[1][piece]
        above_some |= high
        above_all &= high
        under_some |= low
        under_all &= low
    return above_some, above_all, under_some, under_all


def unlike_in(sight):
    """Return the mask of what lies above or under some, but not all."""
    above_some, above_all, under_some, under_all = sight
    return (above_some & ~above_all) | (under_some & ~under_all)
