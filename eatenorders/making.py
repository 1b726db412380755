"""Orders made: chains, loose pieces, divisors, trees, bars, and of two orders one."""

from math import isqrt

from eatenorders.errors import Unfit
from eatenorders.forms import fit_number_from, is_number_from, tupled
from eatenorders.orders import fit_order, greatest_of, least_of


def chain(many):
    """Return the CHAIN of many."""
    fit_number_from(0, many)
    return many, tuple([(low, low + 1) for low in range(many - 1)])


def loose(many):
    """Return the ORDER of many pieces without ties."""
    fit_number_from(0, many)
    return many, ()


def side_by_side(order, other):
    """Return other beside order, numbered behind it."""
    many, ties = fit_order(order)
    others, other_ties = fit_order(other)
    return many + others, ties + moved_on(other_ties, many)


def stacked(order, other):
    """Return other stacked on order, numbered behind it."""
    own = fit_order(order)
    upper = fit_order(other)
    many, ties = own
    between = [(low, many + high) for low in greatest_of(own) for high in least_of(upper)]
    return many + upper[0], tuple(sorted(ties + tuple(between) + moved_on(upper[1], many)))


def turned(order):
    """Return order upside down: piece k becomes many - 1 - k."""
    many, ties = fit_order(order)
    last = many - 1
    return many, tuple(sorted([(last - high, last - low) for low, high in ties]))


def divisors(number):
    """Return the ORDER of the divisors of number, each under its multiples."""
    fit_number_from(1, number)
    own = divisors_of(number)
    place = {divisor: at for at, divisor in enumerate(own)}
    primes = primes_of(number, own)
    ties = [(place[divisor], place[divisor * prime])
            for divisor in own for prime in primes if divisor * prime in place]
    return len(own), tuple(ties)


def tree(parents):
    """Return the ORDER in which each piece stands right above its parent."""
    own = tupled(parents, 1)
    if not are_parents(own):
        raise Unfit()
    ties = [(parent, piece) for piece, parent in enumerate(own) if parent is not None]
    return len(own), tuple(sorted(ties))


def bar(high, wide):
    """Return the ORDER of the squares of a bar, column by column."""
    fit_number_from(1, high)
    fit_number_from(1, wide)
    many = high * wide
    ties = []
    for piece in range(many):
        if (piece + 1) % high != 0:
            ties.append((piece, piece + 1))
        if piece + high < many:
            ties.append((piece, piece + high))
    return many, tuple(ties)


def layered(sizes):
    """Return the ORDER of layers of such sizes, from the lowest on."""
    own = tupled(sizes, 1)
    if not are_sizes(own):
        raise Unfit()
    ties = []
    begin = 0
    for at in range(len(own) - 1):
        behind = begin + own[at]
        ties.extend([(low, high) for low in range(begin, behind)
                     for high in range(behind, behind + own[at + 1])])
        begin = behind
    return sum(own), tuple(ties)


def moved_on(ties, by):
    """Return ties between pieces whose numbers are greater by so much."""
    return tuple([(low + by, high + by) for low, high in ties])


def divisors_of(number):
    """Return the list of the divisors of number, ascending."""
    small = [divisor for divisor in range(1, isqrt(number) + 1) if number % divisor == 0]
    return sorted(set(small + [number // divisor for divisor in small]))


def primes_of(number, candidates):
    """Return the list of the primes among candidates, all divisors of number, ascending."""
    rest = number
    found = []
    for divisor in candidates:
        # What divides the rest is prime: lesser primes are no more in it.
        if divisor > 1 and rest % divisor == 0:
            found.append(divisor)
            while rest % divisor == 0:
                rest = rest // divisor
    return found


def are_parents(thing):
    """Tell whether thing is a tuple with None or a lesser number at each place."""
    if not isinstance(thing, tuple):
        return False
    return all([parent is None or is_number_from(0, parent) and parent < piece
                for piece, parent in enumerate(thing)])


def are_sizes(thing):
    """Tell whether thing is a tuple of numbers from 1."""
    return isinstance(thing, tuple) and all([is_number_from(1, size) for size in thing])
