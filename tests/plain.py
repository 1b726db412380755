"""Plain searches, straight from the words of the document, to hold the package against.

Nothing of the package is used here, so that a fault of it cannot hide itself.
"""

import functools
import itertools
import random


def led_to(ties, low):
    """The pieces that ties, one behind another, lead to from low."""
    found, grown = set(), {high for begin, high in ties if begin == low}
    while grown != found:
        found = grown
        grown = found | {high for begin, high in ties if begin in found}
    return found


def is_order(many, ties):
    """Whether ties, ascending pairs low less than high, are those of an ORDER."""
    for tie in ties:
        others = [other for other in ties if other != tie]
        if tie[1] in led_to(others, tie[0]):
            return False
    return True


@functools.lru_cache(maxsize=None)
def all_orders(many):
    """The list of all ORDERS of many pieces, out of all sets of pairs."""
    pairs = list(itertools.combinations(range(many), 2))
    found = []
    for take in itertools.product((False, True), repeat=len(pairs)):
        ties = tuple(pair for pair, taken in zip(pairs, take) if taken)
        if is_order(many, ties):
            found.append((many, ties))
    return tuple(sorted(found))


def small_orders(most=5):
    """All ORDERS of up to so many pieces."""
    return [order for many in range(most + 1) for order in all_orders(many)]


@functools.lru_cache(maxsize=None)
def pairs_of(order):
    """The frozen set of the pairs (low, high), low under high."""
    many, ties = order
    return frozenset((low, high) for low in range(many) for high in led_to(ties, low))


def order_of_pairs(many, pairs):
    """The ORDER in which just the pairs that pairs lead to lie under one another."""
    pairs = {(low, high) for low in range(many) for high in led_to(pairs, low)}
    ties = [(low, high) for low, high in pairs
            if not any((low, mid) in pairs and (mid, high) in pairs for mid in range(many))]
    return many, tuple(sorted(ties))


def random_orders(seed, how_many, many, thick):
    """So many ORDERS of many pieces; of a hundred pairs about thick are laid."""
    rng = random.Random(seed)
    found = []
    for _ in range(how_many):
        pairs = {pair for pair in itertools.combinations(range(many), 2) if rng.randrange(100) < thick}
        found.append(order_of_pairs(many, pairs))
    return found


def some_orders():
    """ORDERS of six to nine pieces, thin ones and thick ones."""
    return [order for many in (6, 7, 8, 9) for thick in (10, 25, 50)
            for order in random_orders(1000 * many + thick, 3, many, thick)]


@functools.lru_cache(maxsize=None)
def lefts(order):
    """The list of the LEFTS, ascending, out of all sets of pieces."""
    many, _ = order
    found = []
    for size in range(many + 1):
        for pieces in itertools.combinations(range(many), size):
            if all(low in pieces for low, high in pairs_of(order) if high in pieces):
                found.append(pieces)
    return tuple(sorted(found))


def bitten(order, left, piece):
    """What the BITE at piece leaves of left."""
    return tuple(other for other in left if other != piece and (piece, other) not in pairs_of(order))


@functools.lru_cache(maxsize=None)
def worth(order, left):
    """The WORTH of left, from its definition."""
    behind = {worth(order, bitten(order, left, piece)) for piece in left}
    return next(number for number in itertools.count() if number not in behind)


def set_left(order, left):
    """The SET of left."""
    return tuple(sorted({worth(order, bitten(order, left, piece)) for piece in left}))


def whole(order):
    """The LEFT of all pieces."""
    return tuple(range(order[0]))


def flaw(order, pieces):
    """The number of the first of pieces that is gone already, None without."""
    left = whole(order)
    for number, piece in enumerate(pieces):
        if piece not in left:
            return number
        left = bitten(order, left, piece)
    return None


@functools.lru_cache(maxsize=None)
def all_plays(order):
    """The list of all PLAYS of order, maybe ()."""
    found = []

    def go_on(play, left):
        found.append(play)
        for piece in left:
            go_on(play + (piece,), bitten(order, left, piece))

    go_on((), whole(order))
    return tuple(found)


@functools.lru_cache(maxsize=None)
def ways_down(order, left):
    """The dict of the frozen sets of how many BITES lead from left to each LEFT."""
    found = {left: {0}}
    for piece in left:
        for other, counts in ways_down(order, bitten(order, left, piece)).items():
            found.setdefault(other, set()).update(count + 1 for count in counts)
    return {other: frozenset(counts) for other, counts in found.items()}


def numberings(order):
    """The list of the NUMBERINGS, out of all rows of pieces."""
    return [row for row in itertools.permutations(range(order[0]))
            if all(row.index(low) < row.index(high) for low, high in pairs_of(order))]


def renumbered(order, row):
    """The ORDER in which the piece row[k] is called k."""
    return order[0], tuple(sorted((row.index(low), row.index(high)) for low, high in order[1]))


def automorphisms(order):
    """The list of the automorphisms, out of all rows of pieces."""
    pairs = pairs_of(order)
    return [row for row in itertools.permutations(range(order[0]))
            if {(row[low], row[high]) for low, high in pairs} == pairs]


def side_by_side(order, *others):
    """All of them beside one another, numbered one behind another."""
    many, ties = order
    for more, other_ties in others:
        ties += tuple((low + many, high + many) for low, high in other_ties)
        many += more
    return many, ties


def chain(many):
    """The CHAIN of many."""
    return many, tuple((low, low + 1) for low in range(many - 1))


def stacked(*orders):
    """All of them stacked, from the lowest on."""
    many, pairs = 0, set()
    for more, ties in orders:
        pairs |= {(low, many + high) for low in range(many) for high in range(more)}
        pairs |= {(low + many, high + many) for low, high in ties}
        many += more
    return order_of_pairs(many, pairs)


def crown(many):
    """So many pieces below, as many above, each upper one above two of a ring."""
    ties = {(low, many + low) for low in range(many)} | {(low, many + (low + 1) % many) for low in range(many)}
    return 2 * many, tuple(sorted(ties))


# 125 LEFTS of three CHAINS, 16 of the loose pieces: 2,000 together.
JUST_FEW = side_by_side(chain(4), chain(4), chain(4), (4, ()))

# One piece on top has one LEFT more.
NOT_FEW = stacked(JUST_FEW, (1, ()))

ELEVEN, STREWN, STALK = (11, ()), (60, ()), chain(60)

# ORDERS with more than 2,000 LEFTS of all kinds: just one more, many more.
MANY_LEFTS = (NOT_FEW, ELEVEN, STREWN, side_by_side(chain(2), chain(22), chain(28)), stacked((1, ()), ELEVEN, (1, ())))
