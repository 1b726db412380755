"""The tree of modules of an order, and its prime parts."""

from eatenorders.decomposing import is_prime_order, members_of, quotient_of, strong_rows
from eatenorders.errors import CanNot, Unfit
from eatenorders.forms import fit_number
from eatenorders.masks import least_in, pieces_in
from eatenorders.nests import how_they_stand, nest_of, nest_rows, order_of_rows
from eatenorders.orders import check_piece, fit_order, is_order, order_with_piece, part_of


def tree_of(order):
    """Return the TREE of order; CanNot() for the empty one."""
    own = fit_order(order)
    rows = strong_rows(own)
    if not rows:
        raise CanNot()
    heads = [head_of(own, rows, at) for at in range(len(rows))]
    return nest_of(heads, [row[2] for row in rows])


def is_tree(thing):
    """Tell whether thing is the TREE of some ORDER."""
    return are_tree_rows(nest_rows(thing, False))


def order_by_tree(tree):
    """Return the ORDER of which tree is the TREE."""
    rows = nest_rows(tree, True)
    if not are_tree_rows(rows):
        raise Unfit()
    return order_of_rows(rows, [row[1] for row in rows])


def is_prime(order):
    """Tell whether order is PRIME."""
    return is_prime_order(fit_order(order))


def prime_parts(order):
    """Return the list, ascending, of the pairs of a strong MODULE and the PRIME ORDER there."""
    own = fit_order(order)
    rows = strong_rows(own)
    return sorted([(pieces_in(row[1]), quotient_of(own, members_of(rows, at)))
                   for at, row in enumerate(rows) if row[0] == "prime"])


def widest_prime(order):
    """Return how many pieces the greatest of the PRIME ORDERS has, 0 without."""
    return widest_in(strong_rows(fit_order(order)))


def tree_depth(order):
    """Return how many strong MODULES there are at the most, each within the next one."""
    rows = strong_rows(fit_order(order))
    depths = [1] * len(rows)
    for at, (_, _, members) in enumerate(rows):
        for member in members:
            depths[member] = depths[at] + 1
    return max(depths, default=0)


def strong_with(order, piece):
    """Return the list, from the least to the greatest, of the strong MODULES that have piece."""
    own = order_with_piece(order, piece)
    return [pieces_in(mask) for _, mask, _ in reversed(rows_with(own, 1 << piece))]


def meeting(order, piece, other):
    """Return the word at the least strong MODULE that has both, and this MODULE."""
    own = fit_order(order)
    fit_number(piece)
    fit_number(other)
    check_piece(own, piece)
    check_piece(own, other)
    if piece == other:
        raise CanNot()
    word, mask, _ = rows_with(own, (1 << piece) | (1 << other))[-1]
    return word, pieces_in(mask)


def prime_less(order):
    """Return the set of the pieces without each of which order is PRIME; CanNot() if it is not."""
    own = fit_order(order)
    if not is_prime_order(own):
        raise CanNot()
    whole = tuple(range(own[0]))
    return tuple([piece for piece in whole
                  if is_prime_order(part_of(own, whole[:piece] + whole[piece + 1:]))])


def head_of(order, rows, at):
    """Return what the TREE of a strong MODULE begins with; a single piece is its TREE itself."""
    word, mask, _ = rows[at]
    if word == "":
        return least_in(mask)
    return (word, quotient_of(order, members_of(rows, at))) if word == "prime" else (word,)


def rows_with(order, mask):
    """Return the list, from the greatest to the least, of the rows of the strong MODULES with mask."""
    # Each has the next one within it, and rows come ahead of those within them.
    return [row for row in strong_rows(order) if row[1] & mask == mask]


def widest_in(rows):
    """Return how many pieces the greatest PRIME ORDER has, rows being those of the strong MODULES."""
    return max([len(row[2]) for row in rows if row[0] == "prime"], default=0)


def are_tree_rows(rows):
    """Tell whether rows of a nest, or None, are those of the TREE of some ORDER."""
    if rows is None:
        return False
    pieces = [told for word, told, _ in rows if word == ""]
    if sorted(pieces) != list(range(len(pieces))):
        return False
    primes = [is_fit_prime(told, len(members)) for word, told, members in rows if word == "prime"]
    return all(primes) and are_rows_ascending(rows)


def is_fit_prime(told, many):
    """Tell whether told is a PRIME ORDER of many pieces."""
    return is_order(told) and told[0] == many and is_prime_order(told)


def are_rows_ascending(rows):
    """Tell whether members come by their least pieces, and what lies under has lesser numbers."""
    least = {}
    greatest = {}
    for at in range(len(rows) - 1, -1, -1):
        word, told, members = rows[at]
        firsts = [least[member] for member in members]
        lasts = [greatest[member] for member in members]
        if firsts != sorted(firsts):
            return False
        ties, _, _ = how_they_stand(word, told, len(members))
        if not all([lasts[low] < firsts[high] for low, high in ties]):
            return False
        least[at] = min(firsts, default=told)
        greatest[at] = max(lasts, default=told)
    return True
