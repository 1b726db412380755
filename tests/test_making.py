"""[6]: orders made."""

import itertools
import unittest

from eatenorders import making, orders
from eatenorders.making import bar, chain, divisors, layered, loose, side_by_side, stacked, tree, turned
from eatenorders.orders import height, is_order, pairs_of, under
from tests import plain
from tests.checks import BAD_ORDERS, NO_END, NO_NUMBERS, Case, lists

EXAMPLES = r"""
    >>> chain(3), loose(2), chain(0), side_by_side(chain(2), fork), side_by_side(loose(1), chain(2))
    ((3, ((0, 1), (1, 2))), (2, ()), (0, ()), (5, ((0, 1), (2, 3), (2, 4))), (3, ((1, 2),)))
    >>> stacked(loose(2), chain(2)), stacked(chain(1), loose(2)) == fork, stacked((0, ()), fork) == fork, stacked(fork, (0, ())) == fork
    ((4, ((0, 2), (1, 2), (2, 3))), True, True, True)
    >>> turned(fork), turned(enn) == enn, turned(late), turned(chain(4)) == chain(4)
    ((3, ((0, 2), (1, 2))), True, (4, ((0, 2), (1, 3), (2, 3))), True)
    >>> divisors(1), divisors(12), divisors(8) == chain(4), divisors(30)[0]
    ((1, ()), (6, ((0, 1), (0, 2), (1, 3), (1, 4), (2, 4), (3, 5), (4, 5))), True, 8)
    >>> tree((None, 0, 0, 1)) == late, tree(()), tree((None, None, 1)), layered((1, 2)) == fork, layered((2, 2))
    (True, (0, ()), (3, ((1, 2),)), True, (4, ((0, 2), (0, 3), (1, 2), (1, 3))))
    >>> bar(2, 2), bar(1, 3) == chain(3), bar(2, 3)
    ((4, ((0, 1), (0, 2), (1, 3), (2, 3))), True, (6, ((0, 1), (0, 2), (1, 3), (2, 3), (2, 4), (3, 5), (4, 5))))
    >>> tree((0,))
    raises Unfit()
    >>> stacked(fork, (2, ((1, 0),)))
    raises Unfit()
"""

FORK, ENN, LATE = (3, ((0, 1), (0, 2))), (4, ((0, 2), (1, 2), (1, 3))), (4, ((0, 1), (0, 2), (1, 3)))
EMPTY, STALK, STREWN = (0, ()), plain.chain(60), (60, ())
SOME = plain.small_orders(3) + [ENN, LATE, (5, ((0, 3), (1, 4)))] + plain.random_orders(61, 3, 6, 30)


def stacked_plain(order, other):
    many, more = order[0], other[0]
    pairs = set(plain.pairs_of(order)) | {(low + many, high + many) for low, high in plain.pairs_of(other)}
    pairs |= {(low, many + high) for low in range(many) for high in range(more)}
    return plain.order_of_pairs(many + more, pairs)


def turned_plain(order):
    last = order[0] - 1
    return plain.order_of_pairs(order[0], {(last - high, last - low) for low, high in plain.pairs_of(order)})


def divisors_plain(number):
    own = [divisor for divisor in range(1, number + 1) if number % divisor == 0]
    pairs = {(at, to) for at, to in itertools.combinations(range(len(own)), 2) if own[to] % own[at] == 0}
    return plain.order_of_pairs(len(own), pairs)


def bar_plain(high, wide):
    squares = list(itertools.product(range(wide), range(high)))
    pairs = {(at, to) for at, (x, y) in enumerate(squares) for to, (column, row) in enumerate(squares)
             if at != to and column >= x and row >= y}
    return plain.order_of_pairs(high * wide, pairs)


def layered_plain(sizes):
    told = [layer for layer, size in enumerate(sizes) for _ in range(size)]
    pairs = {(at, to) for at in range(len(told)) for to in range(len(told)) if told[at] < told[to]}
    return plain.order_of_pairs(len(told), pairs)


class Examples(Case):

    def test_examples(self):
        names = dict(vars(making))
        exec("fork, enn, late = (3, ((0, 1), (0, 2))), (4, ((0, 2), (1, 2), (1, 3))), (4, ((0, 1), (0, 2), (1, 3)))",
             names)
        self.examples(EXAMPLES, names)


class ChainsAndLoosePieces(Case):

    def test_chain(self):
        for many in range(8):
            self.gives(chain, (many,), plain.chain(many))
            self.assertEqual(pairs_of(chain(many)), tuple(itertools.combinations(range(many), 2)))
        self.gives(chain, (60,), STALK)

    def test_loose(self):
        for many in (0, 1, 2, 3, 60, 10 ** 6):
            self.gives(loose, (many,), (many, ()))

    def test_a_million(self):
        many, ties = chain(10 ** 6)
        self.assertEqual((many, len(ties), ties[0], ties[-1]), (10 ** 6, 10 ** 6 - 1, (0, 1), (999998, 999999)))

    def test_refused(self):
        for function in (chain, loose):
            for bad in NO_NUMBERS + (-1, -60, -10 ** 6):
                self.unfit(function, bad)


class TwoOrders(Case):

    def test_side_by_side(self):
        for order, other in itertools.product(SOME, SOME):
            self.assertEqual(side_by_side(order, other), plain.side_by_side(order, other))

    def test_stacked(self):
        for order, other in itertools.product(SOME, SOME):
            told = stacked(order, other)
            self.assertEqual(told, stacked_plain(order, other))
            self.assertIs(is_order(told), True)

    def test_in_every_guise(self):
        for order, other in itertools.product(SOME[::4], SOME[::5]):
            self.gives(side_by_side, (order, other), plain.side_by_side(order, other))
            self.gives(stacked, (order, other), stacked_plain(order, other))

    def test_with_the_empty_order(self):
        for order in SOME:
            for function in (side_by_side, stacked):
                self.gives(function, (order, EMPTY), order)
                self.gives(function, (EMPTY, order), order)

    def test_of_all_pairs_of_small_orders_pieces_ties_and_heights_add_up(self):
        small = plain.small_orders(3) + list(plain.all_orders(4))
        for order, other in itertools.product(small, small):
            both = side_by_side(order, other)
            self.assertEqual((both[0], len(both[1])), (order[0] + other[0], len(order[1]) + len(other[1])))
            self.assertIs(is_order(both), True)
            self.assertEqual(height(stacked(order, other)), height(order) + height(other))

    def test_of_sixty(self):
        self.gives(side_by_side, (STREWN, STREWN), (120, ()))
        self.gives(stacked, (STALK, STALK), plain.chain(120))
        self.gives(stacked, (STREWN, STREWN), (120, tuple((low, high) for low in range(60) for high in range(60, 120))))
        self.gives(side_by_side, (STALK, STALK), plain.side_by_side(STALK, STALK))

    def test_refused(self):
        for function in (side_by_side, stacked):
            for bad in BAD_ORDERS:
                self.unfit(function, bad, FORK)
                self.unfit(function, FORK, bad)
                self.unfit(function, bad, bad)
                self.unfit(function, lists(FORK), lists(bad))


class WithoutAnEnd(Case):

    def test_values_without_an_end(self):
        for bad in NO_END:
            for function in (chain, loose, turned, divisors, tree, layered):
                self.unfit(function, bad)
            for function in (side_by_side, stacked):
                self.unfit(function, bad, FORK)
                self.unfit(function, FORK, bad)
            self.unfit(bar, bad, 1)
            self.unfit(bar, 1, bad)


class Turned(Case):

    def test_turned(self):
        for order in plain.small_orders() + plain.some_orders():
            told = turned(order)
            self.assertEqual(told, turned_plain(order))
            self.assertEqual(turned(told), order)

    def test_what_lies_under_lies_above(self):
        for order in plain.small_orders(4):
            last = order[0] - 1
            for piece in range(order[0]):
                expected = tuple(sorted(last - other for other in orders.above(order, piece)))
                self.assertEqual(under(turned(order), last - piece), expected)

    def test_of_stacked_ones(self):
        for order, other in itertools.product(SOME, SOME):
            self.assertEqual(turned(stacked(other, order)), stacked(turned(order), turned(other)))

    def test_in_every_guise(self):
        for order in SOME + [STALK, STREWN]:
            self.gives(turned, (order,), turned_plain(order))

    def test_refused(self):
        for bad in BAD_ORDERS:
            self.unfit(turned, bad)


class Divisors(Case):

    def test_all_small_numbers(self):
        for number in range(1, 400):
            self.assertEqual(divisors(number), divisors_plain(number), number)

    def test_greater_numbers(self):
        for number in (1, 2, 12, 97, 720, 2310, 30030, 65536, 99991, 100000, 83160):
            self.gives(divisors, (number,), divisors_plain(number))

    def test_a_million(self):
        told = divisors(10 ** 6)
        self.gives(divisors, (10 ** 6,), divisors_plain(10 ** 6))
        self.assertEqual((told[0], len(told[1])), (49, 84))
        self.gives(divisors, (999983,), (2, ((0, 1),)))
        self.assertEqual(divisors(720720), divisors_plain(720720))

    def test_powers_of_a_prime_are_chains(self):
        for prime in (2, 3, 5, 7, 31, 997):
            number, many = 1, 1
            while number <= 10 ** 6:
                self.assertEqual(divisors(number), plain.chain(many))
                number, many = number * prime, many + 1

    def test_powers_of_two_primes_are_a_bar_numbered_otherwise(self):
        for prime, other in ((2, 3), (3, 2), (2, 101), (5, 7)):
            for high, wide in itertools.product((1, 2, 3, 4), (1, 2, 3)):
                squares = [prime ** y * other ** x for x in range(wide) for y in range(high)]
                place = {divisor: at for at, divisor in enumerate(sorted(squares))}
                ties = [(place[squares[low]], place[squares[to]]) for low, to in bar(high, wide)[1]]
                self.assertEqual(divisors(max(squares)), (high * wide, tuple(sorted(ties))))

    def test_refused(self):
        for bad in NO_NUMBERS + (0, -1, -12):
            self.unfit(divisors, bad)


class Trees(Case):

    def test_all_small_trees(self):
        for many in range(6):
            for parents in itertools.product(*[[None, *range(piece)] for piece in range(many)]):
                told = tree(parents)
                pairs = {(parent, piece) for piece, parent in enumerate(parents) if parent is not None}
                self.assertEqual(told, plain.order_of_pairs(many, pairs))
                for piece in range(many):
                    row = under(told, piece)
                    self.assertEqual(height(orders.part(told, row)), len(row))

    def test_in_every_guise(self):
        self.gives(tree, ((),), EMPTY)
        self.gives(tree, ((None,),), (1, ()))
        self.gives(tree, ((None, 0, 0, 1),), LATE)
        self.gives(tree, ((None, None, 0, 1, 0),), (5, ((0, 2), (0, 4), (1, 3))))
        self.gives(tree, ((None,) + tuple(range(59)),), STALK)
        self.gives(tree, ((None,) * 60,), STREWN)
        self.gives(tree, ((None,) + (0,) * 59,), (60, tuple((0, piece) for piece in range(1, 60))))

    def test_refused(self):
        for bad in (None, "", "a", 0, True, {}, {None}, {0: None}, 1.5, (0,), (1,), (-1,), (None, 1), (None, 2), (None, -1),
                    (None, True), (None, False), (None, 0, 2), (None, 0, 3), (None, "0"), (None, (0,)), (None, 0.0), ((),),
                    (None, 0, None, "x"), ("None",)):
            self.unfit(tree, bad)
            self.unfit(tree, lists(bad))


class Bars(Case):

    def test_bars(self):
        for high, wide in itertools.product(range(1, 6), range(1, 6)):
            self.gives(bar, (high, wide), bar_plain(high, wide))

    def test_edges(self):
        self.gives(bar, (1, 1), (1, ()))
        self.gives(bar, (1, 60), STALK)
        self.gives(bar, (60, 1), STALK)
        self.gives(bar, (6, 10), bar_plain(6, 10))

    def test_refused(self):
        for bad in NO_NUMBERS + (0, -1, -60):
            self.unfit(bar, bad, 2)
            self.unfit(bar, 2, bad)
            self.unfit(bar, bad, bad)


class Layers(Case):

    def test_layers(self):
        for many in range(4):
            for sizes in itertools.product((1, 2, 3), repeat=many):
                self.gives(layered, (sizes,), layered_plain(sizes))

    def test_edges(self):
        self.gives(layered, ((),), EMPTY)
        self.gives(layered, ((60,),), STREWN)
        self.gives(layered, ((1,) * 60,), STALK)
        self.gives(layered, ((20, 30, 10),), layered_plain((20, 30, 10)))
        self.gives(layered, ((3, 1, 1, 4),), layered_plain((3, 1, 1, 4)))

    def test_refused(self):
        for bad in (None, "", "12", 0, 3, True, {}, {1}, {1: 2}, 1.5, (0,), (1, 0), (-1,), (1, -1), (True,), (1, True),
                    (None,), (1, None), ("1",), (1.0,), ((1,),), ((),), (1, (2,))):
            self.unfit(layered, bad)
            self.unfit(layered, lists(bad))


if __name__ == "__main__":
    unittest.main()
