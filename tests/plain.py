"""Plain searches, straight from the words of the document, to hold the package against.

Nothing of the package is used here, so that a fault of it cannot hide itself.
"""

import functools
import itertools
import random


def led_to(ties, low):
    """The pieces that ties, one behind another, lead to from low."""
    found, grown = set(), {high for begin, high in ties if begin == low}
    while grown != found:
        found = grown
        grown = found | {high for begin, high in ties if begin in found}
    return found


def is_order(many, ties):
    """Whether ties, ascending pairs low less than high, are those of an ORDER."""
    for tie in ties:
        others = [other for other in ties if other != tie]
        if tie[1] in led_to(others, tie[0]):
            return False
    return True


@functools.lru_cache(maxsize=None)
def all_orders(many):
    """The list of all ORDERS of many pieces, out of all sets of pairs."""
    pairs = list(itertools.combinations(range(many), 2))
    found = []
    for take in itertools.product((False, True), repeat=len(pairs)):
        ties = tuple(pair for pair, taken in zip(pairs, take) if taken)
        if is_order(many, ties):
            found.append((many, ties))
    return tuple(sorted(found))


def small_orders(most=5):
    """All ORDERS of up to so many pieces."""
    return [order for many in range(most + 1) for order in all_orders(many)]


@functools.lru_cache(maxsize=None)
def pairs_of(order):
    """The frozen set of the pairs (low, high), low under high."""
    many, ties = order
    return frozenset((low, high) for low in range(many) for high in led_to(ties, low))


def order_of_pairs(many, pairs):
    """The ORDER in which just the pairs that pairs lead to lie under one another."""
    pairs = {(low, high) for low in range(many) for high in led_to(pairs, low)}
    ties = [(low, high) for low, high in pairs
            if not any((low, mid) in pairs and (mid, high) in pairs for mid in range(many))]
    return many, tuple(sorted(ties))


def random_orders(seed, how_many, many, thick):
    """So many ORDERS of many pieces; of a hundred pairs about thick are laid."""
    rng = random.Random(seed)
    found = []
    for _ in range(how_many):
        pairs = {pair for pair in itertools.combinations(range(many), 2) if rng.randrange(100) < thick}
        found.append(order_of_pairs(many, pairs))
    return found


def some_orders():
    """ORDERS of six to nine pieces, thin ones and thick ones."""
    return [order for many in (6, 7, 8, 9) for thick in (10, 25, 50)
            for order in random_orders(1000 * many + thick, 3, many, thick)]


@functools.lru_cache(maxsize=None)
def lefts(order):
    """The list of the LEFTS, ascending, out of all sets of pieces."""
    many, _ = order
    found = []
    for size in range(many + 1):
        for pieces in itertools.combinations(range(many), size):
            if all(low in pieces for low, high in pairs_of(order) if high in pieces):
                found.append(pieces)
    return tuple(sorted(found))


def bitten(order, left, piece):
    """What the BITE at piece leaves of left."""
    return tuple(other for other in left if other != piece and (piece, other) not in pairs_of(order))


@functools.lru_cache(maxsize=None)
def worth(order, left):
    """The WORTH of left, from its definition."""
    behind = {worth(order, bitten(order, left, piece)) for piece in left}
    return next(number for number in itertools.count() if number not in behind)


def set_left(order, left):
    """The SET of left."""
    return tuple(sorted({worth(order, bitten(order, left, piece)) for piece in left}))


def whole(order):
    """The LEFT of all pieces."""
    return tuple(range(order[0]))


def flaw(order, pieces):
    """The number of the first of pieces that is gone already, None without."""
    left = whole(order)
    for number, piece in enumerate(pieces):
        if piece not in left:
            return number
        left = bitten(order, left, piece)
    return None


@functools.lru_cache(maxsize=None)
def all_plays(order):
    """The list of all PLAYS of order, maybe ()."""
    found = []

    def go_on(play, left):
        found.append(play)
        for piece in left:
            go_on(play + (piece,), bitten(order, left, piece))

    go_on((), whole(order))
    return tuple(found)


@functools.lru_cache(maxsize=None)
def ways_down(order, left):
    """The dict of the frozen sets of how many BITES lead from left to each LEFT."""
    found = {left: {0}}
    for piece in left:
        for other, counts in ways_down(order, bitten(order, left, piece)).items():
            found.setdefault(other, set()).update(count + 1 for count in counts)
    return {other: frozenset(counts) for other, counts in found.items()}


def numberings(order):
    """The list of the NUMBERINGS, out of all rows of pieces."""
    return [row for row in itertools.permutations(range(order[0]))
            if all(row.index(low) < row.index(high) for low, high in pairs_of(order))]


def renumbered(order, row):
    """The ORDER in which the piece row[k] is called k."""
    return order[0], tuple(sorted((row.index(low), row.index(high)) for low, high in order[1]))


def automorphisms(order):
    """The list of the automorphisms, out of all rows of pieces."""
    pairs = pairs_of(order)
    return [row for row in itertools.permutations(range(order[0]))
            if {(row[low], row[high]) for low, high in pairs} == pairs]


def side_by_side(order, *others):
    """All of them beside one another, numbered one behind another."""
    many, ties = order
    for more, other_ties in others:
        ties += tuple((low + many, high + many) for low, high in other_ties)
        many += more
    return many, ties


def chain(many):
    """The CHAIN of many."""
    return many, tuple((low, low + 1) for low in range(many - 1))


def stacked(*orders):
    """All of them stacked, from the lowest on."""
    many, pairs = 0, set()
    for more, ties in orders:
        pairs |= {(low, many + high) for low in range(many) for high in range(more)}
        pairs |= {(low + many, high + many) for low, high in ties}
        many += more
    return order_of_pairs(many, pairs)


def crown(many):
    """So many pieces below, as many above, each upper one above two of a ring."""
    ties = {(low, many + low) for low in range(many)} | {(low, many + (low + 1) % many) for low in range(many)}
    return 2 * many, tuple(sorted(ties))


def lacking(numbers, place):
    """The number at this place, from 0, among those that are none of numbers."""
    return next(itertools.islice((own for own in itertools.count() if own not in numbers), place, None))


def sets_below(many):
    """All sets of numbers below many."""
    return [own for size in range(many + 1) for own in itertools.combinations(range(many), size)]


def lies(order, piece, other):
    """How piece lies to other: "under", "above", "beside"; None if it is the same."""
    if piece == other:
        return None
    if (piece, other) in pairs_of(order):
        return "under"
    return "above" if (other, piece) in pairs_of(order) else "beside"


def is_module(order, pieces):
    """Whether pieces are a MODULE: each piece outside lies in one way to all of them."""
    outside = [other for other in range(order[0]) if other not in pieces]
    return bool(pieces) and all(len({lies(order, other, piece) for piece in pieces}) == 1 for other in outside)


@functools.lru_cache(maxsize=None)
def modules(order):
    """The list of the MODULES, ascending, out of all sets of pieces."""
    return tuple(sorted(own for own in sets_below(order[0]) if is_module(order, own)))


def cross(one, two):
    """Whether two sets have a piece in common, and each one that the other has not."""
    one, two = set(one), set(two)
    return bool(one & two and one - two and two - one)


@functools.lru_cache(maxsize=None)
def strong(order):
    """The list of the strong MODULES, ascending."""
    return tuple(own for own in modules(order) if not any(cross(own, other) for other in modules(order)))


def greatest_within(order, module):
    """The greatest strong MODULES within a strong one, ascending."""
    inner = [own for own in strong(order) if set(own) < set(module)]
    return tuple(own for own in inner if not any(set(own) < set(other) for other in inner))


def quotient(order, cut):
    """The ORDER with a piece for each MODULE of cut."""
    return order_of_pairs(len(cut), {(at, to) for at, one in enumerate(cut) for to, other in enumerate(cut)
                                     if one != other and lies(order, one[0], other[0]) == "under"})


def word_at(order, module):
    """The word that stands at a strong MODULE of more than one piece."""
    ways = {lies(order, one[0], other[0])
            for one, other in itertools.combinations(greatest_within(order, module), 2)}
    if ways == {"beside"}:
        return "beside"
    return "prime" if "beside" in ways else "stack"


def tree(order, module):
    """The TREE of a strong MODULE."""
    if len(module) == 1:
        return module[0]
    cut = greatest_within(order, module)
    word = word_at(order, module)
    head = (word, quotient(order, cut)) if word == "prime" else (word,)
    return head + tuple(tree(order, own) for own in cut)


def ns(order):
    """The list of the Ns, ascending."""
    told = {"ac": "under", "bc": "under", "bd": "under", "ab": "beside", "ad": "beside", "cd": "beside"}
    return [row for row in itertools.permutations(range(order[0]), 4)
            if all(lies(order, row["abcd".index(one)], row["abcd".index(other)]) == way
                   for (one, other), way in told.items())]


@functools.lru_cache(maxsize=None)
def form(order):
    """The least ORDER that order can be numbered to be."""
    return min(renumbered(order, row) for row in numberings(order))


def turned(order):
    """The ORDER upside down."""
    many, ties = order
    return many, tuple(sorted((many - 1 - high, many - 1 - low) for low, high in ties))


def part(order, pieces):
    """The ORDER of these pieces alone."""
    return order_of_pairs(len(pieces), {(at, to) for at, low in enumerate(pieces) for to, high in enumerate(pieces)
                                        if (low, high) in pairs_of(order)})


def put_in(company, order):
    """The ORDER in which order is put into company, from the words of [3]."""
    own, hole = company
    names = [("own", piece) for piece in range(hole)]
    names += [("inner", piece) for piece in range(order[0])]
    names += [("own", piece) for piece in range(hole + 1, own[0])]

    def is_under(one, other):
        if one[0] == other[0] == "inner":
            return (one[1], other[1]) in pairs_of(order)
        return tuple(hole if kind == "inner" else piece for kind, piece in (one, other)) in pairs_of(own)

    return order_of_pairs(len(names), {(at, to) for at, one in enumerate(names) for to, other in enumerate(names)
                                       if is_under(one, other)})


def blown(order, inner):
    """The ORDER with the ORDERS inner in the places of the pieces of order, numbered one behind another."""
    begin = [sum(own[0] for own in inner[:at]) for at in range(order[0])]
    pairs = {(begin[at] + low, begin[at] + high) for at, own in enumerate(inner) for low, high in pairs_of(own)}
    pairs |= {(begin[at] + low, begin[to] + high) for at, to in pairs_of(order)
              for low in range(inner[at][0]) for high in range(inner[to][0])}
    return order_of_pairs(sum(own[0] for own in inner), pairs)


def fence(many):
    """A zigzag of so many pieces: the least ones first, each other one above one or two of them."""
    half = (many + 1) // 2
    ties = [(low, half + low) for low in range(many - half)] + [(low + 1, half + low) for low in range(half - 1)]
    return many, tuple(sorted(ties))


def worths_by_masks(order):
    """The dict of the WORTHS of all LEFTS, by the sums of 2 ** piece; the list of what each BITE takes, so told."""
    above = [sum(2 ** other for other in range(order[0]) if other == piece or (piece, other) in pairs_of(order))
             for piece in range(order[0])]
    worths, waiting = {0: 0}, [2 ** order[0] - 1]
    while waiting:
        mask = waiting[-1]
        behind = [mask & ~above[piece] for piece in range(order[0]) if mask >> piece & 1]
        unknown = [other for other in behind if other not in worths]
        waiting += unknown
        if not unknown:
            numbers = {worths[other] for other in behind}
            worths[mask] = next(number for number in itertools.count() if number not in numbers)
            waiting.pop()
    return worths, above


def come_to(order, left, named):
    """The set of the LEFTS come to from left, against the dict of the pieces asked at LEFTS."""
    found, waiting = set(), [left]
    while waiting:
        here = waiting.pop()
        for come in {bitten(order, here, piece) for piece in here} - found:
            found.add(come)
            if come in named:
                waiting.append(bitten(order, come, named[come]))
    return found


def are_answers(order, left, pairs):
    """Whether REPLIES are ANSWERS of left."""
    return come_to(order, left, dict(pairs)) == set(dict(pairs))


def all_replies(order):
    """All REPLIES of an order of few pieces."""
    rows = [[None, *left] for left in lefts(order)]
    return [tuple((left, piece) for left, piece in zip(lefts(order), row) if piece is not None)
            for row in itertools.product(*rows)]


ENN = (4, ((0, 2), (1, 2), (1, 3)))

# 125 LEFTS of three CHAINS, 16 of the loose pieces: 2,000 together.
JUST_FEW = side_by_side(chain(4), chain(4), chain(4), (4, ()))

# One piece on top has one LEFT more.
NOT_FEW = stacked(JUST_FEW, (1, ()))

ELEVEN, STREWN, STALK = (11, ()), (60, ()), chain(60)

# ORDERS with more than 2,000 LEFTS of all kinds: just one more, many more.
MANY_LEFTS = (NOT_FEW, ELEVEN, STREWN, side_by_side(chain(2), chain(22), chain(28)), stacked((1, ()), ELEVEN, (1, ())))
