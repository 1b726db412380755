"""Orders numbered otherwise, and the ways in which an order is like itself."""

from eatenorders.bites import few_lefts
from eatenorders.errors import TooMany, Unfit
from eatenorders.forms import is_each_once_below, tupled
from eatenorders.masks import bits_of, how_many_in, links_of
from eatenorders.orders import fit_order

MOST_NUMBERINGS = 5040
MOST_AUTOMORPHISMS = 2000


def is_numbering(order, thing):
    """Tell whether thing is a NUMBERING of order."""
    return is_numbering_of(fit_order(order), thing)


def renumbered(order, pieces):
    """Return the ORDER in which piece pieces[k] is called k."""
    many, ties = fit_order(order)
    own = tupled(pieces, 1)
    if not is_numbering_of((many, ties), own):
        raise Unfit()
    return many, ties_called(ties, own)


def how_many_numberings(order):
    """Return how many NUMBERINGS there are; TooMany() above 2,000 LEFTS."""
    own = fit_order(order)
    return numberings_counted(few_lefts(own))


def least_form(order):
    """Return the least of all ORDERS that order can be numbered to be."""
    return least_form_of(fit_order(order))


def how_many_forms(order):
    """Return how many unlike ORDERS order can be numbered to be."""
    own = fit_order(order)
    return len({ties_called(own[1], pieces) for pieces in few_numberings(own)})


def are_alike(order, other):
    """Tell whether order can be numbered to be other."""
    own = fit_order(order)
    others = fit_order(other)
    return least_form_of(own) == least_form_of(others)


def automorphisms(order):
    """Return the list, ascending, of all automorphisms; TooMany() above 2,000."""
    found = all_moves(fit_order(order), MOST_AUTOMORPHISMS)
    if len(found) > MOST_AUTOMORPHISMS:
        raise TooMany()
    return sorted(found)


def is_automorphism(order, thing):
    """Tell whether thing is an automorphism of order."""
    many, ties = fit_order(order)
    if not is_each_once_below(many, thing):
        return False
    # As many ties come out as go in, so it is enough that each of them is one.
    return sorted([(thing[low], thing[high]) for low, high in ties]) == list(ties)


def is_numbering_of(order, thing):
    """Tell whether thing is a NUMBERING of an ORDER that is known to be one."""
    many, ties = order
    if not is_each_once_below(many, thing):
        return False
    place = {piece: at for at, piece in enumerate(thing)}
    return all([place[low] < place[high] for low, high in ties])


def ties_called(ties, pieces):
    """Return ties, ascending, with the place in pieces for each piece."""
    place = {piece: at for at, piece in enumerate(pieces)}
    return tuple(sorted([(place[low], place[high]) for low, high in ties]))


def least_form_of(order):
    """Return the least form of an ORDER that is known to be one."""
    many, ties = order
    return many, min([ties_called(ties, pieces) for pieces in few_numberings(order)])


def numberings_counted(rows):
    """Return how many NUMBERINGS an ORDER has, rows as few_lefts tells them."""
    ways = {}
    for mask, left in rows:
        # A piece can come last exactly if without it there is a LEFT.
        before = [ways.get(mask ^ (1 << piece), 0) for piece in left]
        ways[mask] = sum(before) if left else 1
    return ways[rows[-1][0]]


def few_numberings(order):
    """Return the list of all NUMBERINGS; TooMany() above 2,000 LEFTS or 5,040 of them."""
    rows = few_lefts(order)
    if numberings_counted(rows) > MOST_NUMBERINGS:
        raise TooMany()
    behind = next_pieces(rows)
    # Each beginning goes on to a NUMBERING, so there are never more of them.
    found = [((), 0)]
    for _ in range(order[0]):
        found = [(pieces + (piece,), mask | (1 << piece))
                 for pieces, mask in found for piece in behind[mask]]
    return [pieces for pieces, _ in found]


def next_pieces(rows):
    """Return the dict of the lists of the pieces with which each mask is a LEFT again."""
    behind = {mask: [] for mask, _ in rows}
    for mask, left in rows:
        for piece in left:
            before = mask ^ (1 << piece)
            if before in behind:
                behind[before].append(piece)
    return behind


def all_moves(order, most):
    """Return the list of all automorphisms; of more than most only some, but more than most.

    It is enough to find, for each piece and each image that it can have while all lesser pieces
    stay, one automorphism: each automorphism is put together of such, one for each piece, in
    just one way. What is still possible for a piece is kept as a mask of images, and narrowed
    with each image that is settled.
    """
    many = order[0]
    links = links_of(order)
    domains = first_domains(many, links)
    found = [tuple(range(many))]
    for piece in range(many):
        moves = moves_to_each(links, domains, piece, most // len(found))
        found = [tuple([first[at] for at in move]) for first in found for move in moves]
        if len(found) > most:
            return found
        domains = narrowed(links, domains, piece, piece)
    return found


def first_domains(many, links):
    """Return the list of the masks of the pieces that lie like each piece, as colours tell."""
    colours = settled_colours(many, links)
    masks = [0] * many
    for piece in range(many):
        masks[colours[piece]] |= 1 << piece
    return [masks[colour] for colour in colours]


def settled_colours(many, links):
    """Return the list of colours of the pieces: alike ones see as many of each colour.

    No automorphism leads from one colour to another.
    """
    above = [bits_of(mask) for mask in links[0]]
    under = [bits_of(mask) for mask in links[1]]
    colours = [0] * many
    known = 0
    while True:
        seen = [(colours[piece], colours_at(colours, above[piece]), colours_at(colours, under[piece]))
                for piece in range(many)]
        names = {sight: at for at, sight in enumerate(sorted(set(seen)))}
        colours = [names[sight] for sight in seen]
        if len(names) == known:
            return colours
        known = len(names)


def colours_at(colours, pieces):
    """Return the tuple of the colours of pieces, ascending."""
    return tuple(sorted([colours[piece] for piece in pieces]))


def narrowed(links, domains, piece, image):
    """Return what is possible for each piece once this image of piece is settled."""
    above, under = links
    beside = ~(above[image] | under[image] | (1 << image))
    found = []
    for other, domain in enumerate(domains):
        if other == piece:
            found.append(domain & (1 << image))
        elif (above[piece] >> other) & 1:
            found.append(domain & above[image])
        elif (under[piece] >> other) & 1:
            found.append(domain & under[image])
        else:
            found.append(domain & beside)
    return found


def moves_to_each(links, domains, piece, most):
    """Return one automorphism for each image of piece, where lesser pieces stay.

    Behind more than most the search ends.
    """
    found = []
    for image in bits_of(domains[piece]):
        if image == piece:
            found.append(tuple(range(len(domains))))
        else:
            found.extend(one_move(links, domains, piece, image))
        if len(found) > most:
            return found
    return found


def one_move(links, domains, piece, image):
    """Return the list of one automorphism with this image of piece, [] if there is none."""
    sizes = [how_many_in(domain) for domain in domains]
    waiting = [(domains, list(range(piece, len(domains))), piece, image)]
    while waiting:
        before, unsettled, mover, aim = waiting.pop()
        after = narrowed(links, before, mover, aim)
        if 0 not in after:
            others = [other for other in unsettled if other != mover]
            if not others:
                return [tuple([mask.bit_length() - 1 for mask in after])]
            chosen = most_narrowed(sizes, after, others)
            waiting.extend([(after, others, chosen, further) for further in bits_of(after[chosen])])
    return []


def most_narrowed(sizes, domains, pieces):
    """Return that of pieces of whose choice, once of such sizes, the least part is left.

    What nothing was settled for can stay where it is: to try that first would only put off,
    again and again, what cannot be.
    """
    parts = [(1000 * how_many_in(domains[piece]) // sizes[piece], piece) for piece in pieces]
    return min(parts)[1]
