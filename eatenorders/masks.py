"""Sets of pieces as masks: numbers that have the bit of each of these pieces."""


def mask_of(pieces):
    """Return the mask of pieces."""
    return sum([1 << piece for piece in pieces])


def bits_of(mask):
    """Return the list, ascending, of the pieces of which mask has the bit."""
    figures = f"{mask:b}"
    return [piece for piece, figure in enumerate(reversed(figures)) if figure == "1"]


def pieces_in(mask):
    """Return the set of the pieces of which mask has the bit."""
    return tuple(bits_of(mask))


def how_many_in(mask):
    """Return how many bits mask has."""
    figures = f"{mask:b}"
    return figures.count("1")


def least_in(mask):
    """Return the least piece of which mask, not 0, has the bit."""
    return (mask & -mask).bit_length() - 1


def links_of(order):
    """Return the pair of the lists of the masks of what lies above, under each piece."""
    many, ties = order
    above = [0] * many
    under = [0] * many
    for low, high in ties:
        under[high] |= under[low] | (1 << low)
    for low, high in list(reversed(ties)):
        above[low] |= above[high] | (1 << high)
    return above, under
