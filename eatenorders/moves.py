"""The search for the automorphisms of an order.

It is enough to find, for each piece and each image that it can have while all lesser pieces
stay, one automorphism: each automorphism is put together of such, one for each piece, in just
one way. What is still possible for a piece is kept as a mask of images, and narrowed with each
image that is settled.
"""


def all_moves(order, most):
    """Return the list of all automorphisms; of more than most only some, but more than most."""
    many = order[0]
    links = links_of(order)
    domains = first_domains(many, links)
    found = [tuple(range(many))]
    for piece in range(many):
        moves = moves_to_each(links, domains, piece, most // len(found))
        found = [tuple([first[at] for at in move]) for first in found for move in moves]
        if len(found) > most:
            return found
        domains = narrowed(links, domains, piece, piece)
    return found


def links_of(order):
    """Return the pair of the lists of the masks of what lies above, under each piece."""
    many, ties = order
    above = [0] * many
    under = [0] * many
    for low, high in ties:
        under[high] |= under[low] | (1 << low)
    for low, high in list(reversed(ties)):
        above[low] |= above[high] | (1 << high)
    return above, under


def bits_of(mask):
    """Return the list of the pieces of which mask has the bit."""
    return [piece for piece in range(mask.bit_length()) if (mask >> piece) & 1]


def first_domains(many, links):
    """Return the list of the masks of the pieces that lie like each piece, as colours tell."""
    colours = settled_colours(many, links)
    masks = [0] * many
    for piece in range(many):
        masks[colours[piece]] |= 1 << piece
    return [masks[colour] for colour in colours]


def settled_colours(many, links):
    """Return the list of colours of the pieces: alike ones see as many of each colour.

    No automorphism leads from one colour to another.
    """
    above = [bits_of(mask) for mask in links[0]]
    under = [bits_of(mask) for mask in links[1]]
    colours = [0] * many
    known = 0
    while True:
        seen = [(colours[piece], colours_at(colours, above[piece]), colours_at(colours, under[piece]))
                for piece in range(many)]
        names = {sight: at for at, sight in enumerate(sorted(set(seen)))}
        colours = [names[sight] for sight in seen]
        if len(names) == known:
            return colours
        known = len(names)


def colours_at(colours, pieces):
    """Return the tuple of the colours of pieces, ascending."""
    return tuple(sorted([colours[piece] for piece in pieces]))


def narrowed(links, domains, piece, image):
    """Return what is possible for each piece once this image of piece is settled."""
    above, under = links
    beside = ~(above[image] | under[image] | (1 << image))
    found = []
    for other, domain in enumerate(domains):
        if other == piece:
            found.append(domain & (1 << image))
        elif (above[piece] >> other) & 1:
            found.append(domain & above[image])
        elif (under[piece] >> other) & 1:
            found.append(domain & under[image])
        else:
            found.append(domain & beside)
    return found


def moves_to_each(links, domains, piece, most):
    """Return one automorphism for each image of piece, where lesser pieces stay.

    Behind more than most the search ends.
    """
    found = []
    for image in bits_of(domains[piece]):
        if image == piece:
            found.append(tuple(range(len(domains))))
        else:
            found.extend(one_move(links, domains, piece, image))
        if len(found) > most:
            return found
    return found


def one_move(links, domains, piece, image):
    """Return the list of one automorphism with this image of piece, [] if there is none."""
    sizes = [how_many_in(domain) for domain in domains]
    waiting = [(domains, list(range(piece, len(domains))), piece, image)]
    while waiting:
        before, unsettled, mover, aim = waiting.pop()
        after = narrowed(links, before, mover, aim)
        if 0 not in after:
            others = [other for other in unsettled if other != mover]
            if not others:
                return [tuple([mask.bit_length() - 1 for mask in after])]
            chosen = most_narrowed(sizes, after, others)
            waiting.extend([(after, others, chosen, further) for further in bits_of(after[chosen])])
    return []


def how_many_in(mask):
    """Return how many bits mask has."""
    return f"{mask:b}".count("1")


def most_narrowed(sizes, domains, pieces):
    """Return that of pieces of whose choice, once of such sizes, the least part is left.

    What nothing was settled for can stay where it is: to try that first would only put off,
    again and again, what cannot be.
    """
    parts = [(1000 * how_many_in(domains[piece]) // sizes[piece], piece) for piece in pieces]
    return min(parts)[1]
