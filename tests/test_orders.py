"""[5]: orders. [2], [3]: what an ORDER is, and what is passed in as one."""

import itertools
import unittest

from eatenorders import orders
from eatenorders.orders import above, beside_of, by_pairs, greatest_pieces, height, is_order, is_piece, is_under
from eatenorders.orders import knots, least_pieces, levels, pairs_of, part, under
from tests import plain
from tests.checks import BAD_ORDERS, NO_END, NO_NUMBERS, Case, ended, lists, things

EXAMPLES = r"""
    >>> fork, enn, late = (3, ((0, 1), (0, 2))), (4, ((0, 2), (1, 2), (1, 3))), (4, ((0, 1), (0, 2), (1, 3)))
    >>> [is_order(own) for own in (fork, enn, late, (0, ()), (1, ()), (3, ((0, 1), (0, 2), (1, 2))), (2, ((1, 0),)), (2, [(0, 1)]), (2, ((0, 2),)))]
    [True, True, True, True, True, False, False, False, False]
    >>> by_pairs(4, ((1, 3), (0, 1), (0, 3), (0, 2), (0, 1))) == late, pairs_of(late), is_under(late, 0, 3), is_under(late, 2, 3)
    (True, ((0, 1), (0, 2), (0, 3), (1, 3)), True, False)
    >>> under(late, 3), above(late, 0), beside_of(late, 2), beside_of(enn, 0), least_pieces(enn), greatest_pieces(late)
    ((0, 1), (1, 2, 3), (1, 3), (1, 3), (0, 1), (2, 3))
    >>> part(late, (0, 3)), part(late, (1, 2, 3)), part(enn, ()), levels(late), height(late), height((0, ()))
    ((2, ((0, 1),)), (3, ((0, 2),)), (0, ()), (0, 1, 1, 2), 3, 0)
    >>> knots((5, ((0, 3), (1, 4)))), knots(enn), is_piece(fork, 3), is_piece(fork, True)
    (((0, 3), (1, 4), (2,)), ((0, 1, 2, 3),), False, False)
    >>> under(fork, 3)
    raises NoPiece(piece=3)
    >>> by_pairs(2, ((1, 0),))
    raises Unfit()
    >>> part(fork, (2, 1))
    raises Unfit()
"""

EMPTY, ONE, FORK = (0, ()), (1, ()), (3, ((0, 1), (0, 2)))
ENN, LATE = (4, ((0, 2), (1, 2), (1, 3))), (4, ((0, 1), (0, 2), (1, 3)))
STALK, STREWN = plain.chain(60), (60, ())
LAYERS = (60, tuple((low, high) for low in range(30) for high in range(30, 60)))
FEW = [EMPTY, ONE, (2, ()), FORK, ENN, LATE, (5, ((0, 3), (1, 4))), *plain.random_orders(51, 6, 6, 30)]

BY_ORDER = (pairs_of, least_pieces, greatest_pieces, levels, height, knots)
BY_PIECE = (under, above, beside_of)


def under_plain(order, piece):
    return tuple(low for low in range(order[0]) if (low, piece) in plain.pairs_of(order))


def above_plain(order, piece):
    return tuple(high for high in range(order[0]) if (piece, high) in plain.pairs_of(order))


def beside_plain(order, piece):
    near = {piece, *under_plain(order, piece), *above_plain(order, piece)}
    return tuple(other for other in range(order[0]) if other not in near)


def level_plain(order, piece):
    return max([1 + level_plain(order, low) for low, high in order[1] if high == piece], default=0)


def knots_plain(order):
    groups = [{piece} for piece in range(order[0])]
    for low, high in order[1]:
        joined = [group for group in groups if low in group or high in group]
        groups = [group for group in groups if group not in joined] + [set().union(*joined)]
    return tuple(sorted(tuple(sorted(group)) for group in groups))


def part_plain(order, pieces):
    pairs = {(pieces.index(low), pieces.index(high)) for low, high in plain.pairs_of(order)
             if low in pieces and high in pieces}
    return plain.order_of_pairs(len(pieces), pairs)


def sets_below(many):
    return [own for size in range(many + 1) for own in itertools.combinations(range(many), size)]


class Examples(Case):

    def test_examples(self):
        self.examples(EXAMPLES, dict(vars(orders)))


class WhatAnOrderIs(Case):

    def test_out_of_all_sets_of_pairs(self):
        for many in range(5):
            pairs = list(itertools.combinations(range(many), 2))
            for size in range(len(pairs) + 1):
                for ties in itertools.combinations(pairs, size):
                    self.assertIs(is_order((many, ties)), plain.is_order(many, ties), ties)

    def test_of_five_pieces(self):
        pairs = list(itertools.combinations(range(5), 2))
        found = [(5, ties) for size in range(11) for ties in itertools.combinations(pairs, size) if is_order((5, ties))]
        self.assertEqual(sorted(found), list(plain.all_orders(5)))
        self.assertEqual([len(plain.all_orders(many)) for many in range(6)], [1, 1, 2, 7, 40, 357])

    def test_a_tie_that_follows_over_many_others(self):
        for long in (2, 3, 5, 59):
            ties = plain.chain(long + 1)[1]
            self.assertIs(is_order((60, ties)), True)
            self.assertIs(is_order((60, tuple(sorted(ties + ((0, long),))))), False)
            self.assertIs(is_order((60, tuple(sorted(ties[1:] + ((0, long),))))), True)

    def test_other_sequences_of_ties(self):
        ties = ((0, 1), (0, 2), (1, 3))
        for own in itertools.permutations(ties):
            self.assertIs(is_order((4, own)), own == ties)

    def test_wrong_forms(self):
        for bad in BAD_ORDERS:
            self.assertIs(is_order(bad), False, bad)
            self.assertIs(is_order((bad,)), False, bad)

    def test_whatever_thing_is(self):
        for thing in things():
            self.assertIs(is_order(thing), thing == (0, ()) and isinstance(thing, tuple), repr(thing)[:80])

    def test_lists_are_no_tuples(self):
        for order in FEW[2:]:
            self.assertIs(is_order(order), True)
            self.assertIs(is_order(list(order)), False)
            self.assertIs(is_order((order[0], list(order[1]))), False)
            if order[1]:
                self.assertIs(is_order((order[0], (list(order[1][0]),) + order[1][1:])), False)
                self.assertIs(is_order(lists(order)), False)

    def test_truth_values_are_no_numbers(self):
        for own in ((True, ()), (False, ()), (2, ((False, 1),)), (2, ((0, True),)), (3, ((0, 1), (True, 2)))):
            self.assertIs(is_order(own), False)

    def test_numbers_of_any_size(self):
        huge = 10 ** 40
        self.assertIs(is_order((huge, ())), True)
        self.assertIs(is_order((huge, ((0, 1), (5, huge - 1)))), True)
        self.assertIs(is_order((huge, ((0, huge),))), False)
        self.assertIs(is_order((huge, ((0, 5), (0, huge - 1), (5, huge - 1)))), False)
        self.assertIs(is_order((-huge, ())), False)

    def test_values_of_any_length(self):
        long = plain.chain(20000)
        self.assertIs(is_order(long), True)
        self.assertIs(is_order((20000, ((0, 1), (0, 19999)) + long[1][1:])), False)
        self.assertIs(is_order((20000, ((0, 1),) * 20000)), False)
        self.assertIs(is_order((0,) * 20000), False)

    def test_is_piece(self):
        for order in FEW:
            for number in range(-2, order[0] + 3):
                self.gives(is_piece, (order, number), 0 <= number < order[0])
        for thing in things():
            expected = isinstance(thing, int) and not isinstance(thing, bool) and 0 <= thing < 3
            self.gives(is_piece, (FORK, thing), expected)
        self.gives(is_piece, ((2, ()), True), False)
        self.gives(is_piece, ((2, ()), (1,)), False)


class ReadOff(Case):

    def check(self, order):
        pieces = range(order[0])
        pairs = plain.pairs_of(order)
        upper, lower = {low for low, high in pairs}, {high for low, high in pairs}
        self.assertEqual(pairs_of(order), tuple(sorted(pairs)))
        self.assertEqual(least_pieces(order), tuple(piece for piece in pieces if piece not in lower))
        self.assertEqual(greatest_pieces(order), tuple(piece for piece in pieces if piece not in upper))
        self.assertEqual(levels(order), tuple(level_plain(order, piece) for piece in pieces))
        self.assertEqual(height(order), max([level + 1 for level in levels(order)], default=0))
        self.assertEqual(knots(order), knots_plain(order))
        for piece in pieces:
            self.assertEqual(under(order, piece), under_plain(order, piece))
            self.assertEqual(above(order, piece), above_plain(order, piece))
            self.assertEqual(beside_of(order, piece), beside_plain(order, piece))
            for other in pieces:
                self.assertIs(is_under(order, piece, other), (piece, other) in pairs)

    def test_all_small_orders(self):
        for order in plain.small_orders():
            self.check(order)

    def test_greater_orders(self):
        for order in plain.some_orders() + plain.random_orders(60, 2, 24, 12):
            self.check(order)

    def test_in_every_guise(self):
        for order in FEW:
            pieces = range(order[0])
            self.gives(pairs_of, (order,), tuple(sorted(plain.pairs_of(order))))
            self.gives(levels, (order,), tuple(level_plain(order, piece) for piece in pieces))
            self.gives(knots, (order,), knots_plain(order))
            self.gives(height, (order,), max([level_plain(order, piece) + 1 for piece in pieces], default=0))
            self.gives(least_pieces, (order,), tuple(own for own in pieces if not under_plain(order, own)))
            self.gives(greatest_pieces, (order,), tuple(own for own in pieces if not above_plain(order, own)))
            for piece in pieces:
                self.gives(under, (order, piece), under_plain(order, piece))
                self.gives(above, (order, piece), above_plain(order, piece))
                self.gives(beside_of, (order, piece), beside_plain(order, piece))
                self.gives(is_under, (order, piece, order[0] - 1), (piece, order[0] - 1) in plain.pairs_of(order))

    def test_sixty_pieces(self):
        every = tuple(range(60))
        self.gives(levels, (STALK,), every)
        self.gives(height, (STALK,), 60)
        self.gives(pairs_of, (STALK,), tuple(itertools.combinations(range(60), 2)))
        self.gives(under, (STALK, 59), every[:59])
        self.gives(above, (STALK, 0), every[1:])
        self.gives(beside_of, (STALK, 30), ())
        self.gives(knots, (STALK,), (every,))
        self.gives(least_pieces, (STALK,), (0,))
        self.gives(greatest_pieces, (STALK,), (59,))
        self.gives(levels, (STREWN,), (0,) * 60)
        self.gives(height, (STREWN,), 1)
        self.gives(pairs_of, (STREWN,), ())
        self.gives(beside_of, (STREWN, 30), every[:30] + every[31:])
        self.gives(knots, (STREWN,), tuple((piece,) for piece in every))
        self.gives(least_pieces, (STREWN,), every)
        self.gives(greatest_pieces, (STREWN,), every)
        self.gives(pairs_of, (LAYERS,), LAYERS[1])
        self.gives(levels, (LAYERS,), (0,) * 30 + (1,) * 30)
        self.gives(above, (LAYERS, 29), every[30:])
        self.gives(under, (LAYERS, 30), every[:30])
        self.gives(beside_of, (LAYERS, 30), every[31:])
        self.gives(is_under, (LAYERS, 0, 59), True)
        self.gives(is_under, (LAYERS, 0, 29), False)
        self.gives(knots, (LAYERS,), (every,))

    def test_what_is_greater_than_what_is_passed_in_by_rule(self):
        long = plain.chain(3000)
        self.assertEqual(levels(long), tuple(range(3000)))
        self.assertEqual(height(long), 3000)
        self.assertEqual(len(under(long, 2999)), 2999)
        self.assertEqual(knots(long), (tuple(range(3000)),))
        self.assertEqual(part(long, (0, 1500, 2999)), plain.chain(3))

    def test_one_of_three_holds_of_two_unlike_pieces(self):
        for order in plain.small_orders(4) + plain.some_orders():
            for piece, other in itertools.permutations(range(order[0]), 2):
                ways = [is_under(order, piece, other), is_under(order, other, piece), other in beside_of(order, piece)]
                self.assertEqual(sum(ways), 1)
                self.assertIs(ways[0], other in above(order, piece))
                self.assertIs(ways[0], piece in under(order, other))
            for piece in range(order[0]):
                self.assertIs(is_under(order, piece, piece), False)

    def test_levels_and_ties(self):
        for order in plain.small_orders() + plain.some_orders():
            told = levels(order)
            self.assertTrue(all(told[low] < told[high] for low, high in order[1]))
            self.assertEqual(tuple(own for own in range(order[0]) if told[own] == 0), least_pieces(order))

    def test_unlike_knots_lie_beside_one_another(self):
        for order in plain.small_orders() + plain.some_orders():
            told = knots(order)
            self.assertEqual(sorted(piece for knot in told for piece in knot), list(range(order[0])))
            for one, other in itertools.combinations(told, 2):
                for piece in one:
                    self.assertTrue(set(other) <= set(beside_of(order, piece)))


class ByPairs(Case):

    def test_ties_with_any_of_the_pairs_besides(self):
        for order in plain.small_orders(4):
            pairs = sorted(plain.pairs_of(order))
            more = [pair for pair in pairs if pair not in order[1]]
            for size in range(len(more) + 1):
                for besides in itertools.combinations(more, size):
                    self.assertEqual(by_pairs(order[0], besides + order[1]), order)
                    self.assertEqual(by_pairs(order[0], order[1][::-1] + besides + order[1]), order)

    def test_any_pairs(self):
        for many in range(5):
            pairs = list(itertools.combinations(range(many), 2))
            for size in range(len(pairs) + 1):
                for own in itertools.combinations(pairs, size):
                    self.assertEqual(by_pairs(many, own[::-1]), plain.order_of_pairs(many, own))

    def test_greater_ones(self):
        for order in plain.some_orders():
            pairs = tuple(sorted(plain.pairs_of(order), reverse=True))
            self.gives(by_pairs, (order[0], pairs + order[1]), order)

    def test_edges(self):
        self.gives(by_pairs, (0, ()), (0, ()))
        self.gives(by_pairs, (1, ()), (1, ()))
        self.gives(by_pairs, (60, ()), STREWN)
        self.gives(by_pairs, (60, tuple(itertools.combinations(range(60), 2))), STALK)
        self.gives(by_pairs, (60, tuple(itertools.combinations(range(60), 2))[::-1] * 2), STALK)
        self.gives(by_pairs, (3, ((0, 2), (0, 2), (0, 2))), (3, ((0, 2),)))
        self.gives(by_pairs, (10 ** 6, ((5, 999999), (0, 5), (0, 999999))), (10 ** 6, ((0, 5), (5, 999999))))


class Parts(Case):

    def test_all_parts(self):
        for order in plain.small_orders(4) + plain.random_orders(77, 4, 7, 30):
            for pieces in sets_below(order[0]):
                self.assertEqual(part(order, pieces), part_plain(order, pieces))

    def test_in_every_guise(self):
        for order in FEW:
            pieces = tuple(range(0, order[0], 2))
            self.gives(part, (order, pieces), part_plain(order, pieces))
            self.gives(part, (order, tuple(range(order[0]))), order)
            self.gives(part, (order, ()), EMPTY)

    def test_of_sixty(self):
        self.gives(part, (STALK, tuple(range(0, 60, 3))), plain.chain(20))
        self.gives(part, (STREWN, tuple(range(0, 60, 3))), (20, ()))
        self.gives(part, (LAYERS, (0, 1, 58, 59)), (4, ((0, 2), (0, 3), (1, 2), (1, 3))))


class Refused(Case):

    def test_what_is_no_order(self):
        for bad in BAD_ORDERS:
            for function in BY_ORDER:
                self.unfit(function, bad)
            for function in BY_PIECE:
                self.unfit(function, bad, 0)
                self.unfit(function, bad, -1)
                self.unfit(function, bad, None)
            self.unfit(is_under, bad, 0, 1)
            self.unfit(is_under, bad, 99, -1)
            self.unfit(is_piece, bad, 0)
            self.unfit(is_piece, bad, "0")
            self.unfit(part, bad, ())
            self.unfit(part, bad, (0,))

    def test_what_is_no_number(self):
        for bad in NO_NUMBERS:
            for function in BY_PIECE:
                self.unfit(function, FORK, bad)
            self.unfit(is_under, FORK, bad, 0)
            self.unfit(is_under, FORK, 0, bad)
            self.unfit(is_under, FORK, bad, 7)
            self.unfit(is_under, FORK, 7, bad)
            self.unfit(by_pairs, bad, ())
            self.unfit(by_pairs, 3, ((0, bad),))
            self.unfit(by_pairs, 3, ((bad, 2),))
            self.unfit(part, FORK, (bad,))
            self.unfit(part, FORK, (0, bad))

    def test_what_is_no_piece(self):
        for order in FEW:
            for bad in (-1, -order[0], order[0], order[0] + 1, 60, 10 ** 6, -10 ** 6):
                if not 0 <= bad < order[0]:
                    for function in BY_PIECE:
                        self.refuses(function, (order, bad), f"NoPiece(piece={bad})")
                    self.refuses(is_under, (order, bad, 0), f"NoPiece(piece={bad})")
                    self.refuses(is_under, (order, bad, -7), f"NoPiece(piece={bad})")
                    if order[0]:
                        self.refuses(is_under, (order, 0, bad), f"NoPiece(piece={bad})")
        self.refuses(is_under, (FORK, 3, 4), "NoPiece(piece=3)")
        self.refuses(is_under, (FORK, 4, 3), "NoPiece(piece=4)")

    def test_pairs(self):
        for bad in (None, "", "01", 0, True, {}, {(0, 1)}, 1.5, (0, 1), (None,), ("01",), ((0,),), ((0, 1, 2),), ((),),
                    ((1, 0),), ((1, 1),), ((0, 3),), ((3, 4),), ((-1, 1),), ((-2, -1),), ((0, 1), (2, 1)), ({0, 1},),
                    ((0, 1), None), ((0, (1,)),), (((0, 1),),)):
            self.unfit(by_pairs, 3, bad)
        for many in (-1, -10 ** 6):
            self.unfit(by_pairs, many, ())
            self.unfit(by_pairs, many, None)
        self.unfit(by_pairs, 0, ((0, 1),))
        self.unfit(by_pairs, 1, ((0, 1),))

    def test_sets_of_pieces(self):
        for bad in (None, "", "0", 0, True, {}, {0}, {0: 1}, 1.5, (1, 0), (0, 0), (0, 1, 1), (2, 1, 0), (3,), (0, 3), (-1,),
                    (-1, 0), ((0,),), (0, (1,)), ("0",), (None,)):
            self.unfit(part, FORK, bad)
            self.unfit(part, lists(FORK), lists(bad))
        self.unfit(part, EMPTY, (0,))

    def test_values_without_an_end(self):
        for bad in NO_END:
            for function in BY_ORDER:
                self.unfit(function, bad)
            for function in BY_PIECE:
                self.unfit(function, bad, 0)
                self.unfit(function, FORK, bad)
            self.unfit(is_under, bad, 0, 1)
            self.unfit(is_under, FORK, bad, bad)
            self.unfit(by_pairs, bad, bad)
            self.unfit(by_pairs, 3, bad)
            self.unfit(part, bad, ())
            self.unfit(part, FORK, bad)
            self.assertIs(is_order(bad), False)
            self.assertIs(is_piece(FORK, bad), False)

    def test_a_call_that_is_refused_changes_nothing(self):
        own = [3, [[0, 1], [0, 2]]]
        pieces = [2, 1]
        self.assertEqual(ended(part, (own, pieces)), "raises Unfit()")
        self.assertEqual(ended(under, (own, 5)), "raises NoPiece(piece=5)")
        self.assertEqual((own, pieces), ([3, [[0, 1], [0, 2]]], [2, 1]))


if __name__ == "__main__":
    unittest.main()
