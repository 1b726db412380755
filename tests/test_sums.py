"""[10]: several orders beside one another."""

import itertools
import unittest

from eatenorders import sums, worths
from eatenorders.sums import answer_spot, are_balanced, balance, behind_spot, is_answer_spot, is_winning_spot
from eatenorders.sums import sum_left, sum_worth, winning_spot, winning_spots
from tests import plain
from tests.checks import BAD_ORDERS, NO_END, NO_NUMBERS, Case, ended, things

SET_AHEAD = """
vee, cap, stalk = (3, ((0, 1), (0, 2))), (3, ((0, 2), (1, 2))), (3, ((0, 1), (1, 2)))
divided = (6, ((0, 1), (0, 2), (1, 3), (1, 4), (2, 4), (3, 5), (4, 5)))
"""

EXAMPLES = r"""
    >>> all_three = (0, 1, 2)
    >>> sum_worth((vee, cap)), sum_worth((vee, cap, stalk)), sum_worth(()), sum_left((vee, cap), ((0, 1), (0, 1, 2)))
    (3, 0, 0, 0)
    >>> winning_spots((vee, cap), (all_three, all_three)), winning_spots((vee, cap, stalk), (all_three,) * 3), winning_spots((), ())
    (((0, 1), (0, 2), (1, 0), (1, 1)), (), ())
    >>> is_winning_spot((vee, cap), (all_three, all_three), (1, 1)), is_winning_spot((vee, cap), (all_three, all_three), (1, 2)), is_winning_spot((vee, cap), (all_three, all_three), [1, 1])
    (True, False, False)
    >>> are_balanced((vee, cap), (stalk,)), are_balanced((vee,), (cap,)), are_balanced((divided,), (divided,))
    (True, False, True)
    >>> balance((vee, cap)), balance((vee, cap, stalk))
    ((3, ((0, 1), (1, 2))), (0, ()))
    >>> behind_spot((vee, cap, stalk), (all_three,) * 3, 1, 0), winning_spots((vee, cap, stalk), ((0, 1, 2), (1,), (0, 1, 2)))
    (((0, 1, 2), (1,), (0, 1, 2)), ((0, 1), (0, 2), (2, 0)))
    >>> [is_answer_spot((vee, cap, stalk), (all_three,) * 3, 1, 0, own) for own in ((2, 0), (0, 1), (2, 1))], answer_spot((stalk, stalk), (all_three,) * 2, 1, 2)
    ([True, True, False], (0, 2))
    >>> winning_spot((vee, vee), (all_three, all_three))
    raises CanNot()
    >>> answer_spot((vee, cap), (all_three, all_three), 0, 0)
    raises CanNot()
    >>> behind_spot((vee, cap), ((0,), (0, 1)), 0, 2)
    raises NoPiece(piece=(0, 2))
"""

EMPTY, ONE, TWO, VEE, CAP = (0, ()), (1, ()), (2, ()), (3, ((0, 1), (0, 2))), (3, ((0, 2), (1, 2)))
STALK, ZIG = (3, ((0, 1), (1, 2))), (4, ((0, 2), (1, 2), (1, 3)))
SOLID = (0, 1, 2)
LOTS = [(), (EMPTY,), (VEE,), (VEE, CAP), (VEE, CAP, STALK), (TWO, EMPTY, ZIG), (ZIG, ZIG), (CAP, ONE, ONE, TWO)]
LONG = plain.STALK


def as_one(orders, lefts):
    """The WORTH of lefts beside one another, by the plain search in one ORDER of all."""
    whole = plain.side_by_side(EMPTY, *orders)
    return plain.worth(whole, as_one_left(orders, lefts))


def as_one_left(orders, lefts):
    begin, found = 0, ()
    for order, left in zip(orders, lefts):
        found += tuple(begin + piece for piece in left)
        begin += order[0]
    return found


def behind(orders, lefts, number, piece):
    return lefts[:number] + (plain.bitten(orders[number], lefts[number], piece),) + lefts[number + 1:]


def spots(lefts):
    return [(number, piece) for number, left in enumerate(lefts) for piece in left]


def good_spots(orders, lefts):
    return tuple(spot for spot in spots(lefts) if as_one(orders, behind(orders, lefts, *spot)) == 0)


def wholes(orders):
    return tuple(plain.whole(order) for order in orders)


def some_lefts(orders):
    """Some tuples of LEFTS of orders, whole ones and () among them."""
    rows = list(itertools.product(*[plain.lefts(order) for order in orders]))
    return sorted({rows[0], rows[-1], wholes(orders), *rows[::max(1, len(rows) // 12)]})


class Examples(Case):

    def test_examples(self):
        names = dict(vars(sums))
        exec(SET_AHEAD, names)
        self.examples(EXAMPLES, names)


class Worths(Case):

    def test_worths_beside_a_plain_search_in_one_order(self):
        small = plain.small_orders(3)
        for orders in itertools.chain(itertools.product(small, repeat=2), LOTS):
            self.assertEqual(sum_worth(orders), as_one(orders, wholes(orders)))
            self.assertEqual(sum_worth(orders), worths.worth(plain.side_by_side(EMPTY, *orders)))

    def test_lefts_beside_a_plain_search_in_one_order(self):
        for orders in LOTS + [(order, other) for order, other in itertools.product(plain.all_orders(3), repeat=2)]:
            for lefts in some_lefts(orders):
                self.assertEqual(sum_left(orders, lefts), as_one(orders, lefts))

    def test_all_pairs_of_small_orders_by_exclusive_or(self):
        small = plain.small_orders(4)
        own = {order: plain.worth(order, plain.whole(order)) for order in small}
        for order, other in itertools.combinations_with_replacement(small, 2):
            self.assertEqual(sum_worth((order, other)), own[order] ^ own[other])

    def test_in_every_guise(self):
        for orders in LOTS:
            self.gives(sum_worth, (orders,), as_one(orders, wholes(orders)))
            for lefts in some_lefts(orders):
                self.gives(sum_left, (orders, lefts), as_one(orders, lefts))
        self.gives(sum_worth, ((),), 0)
        self.gives(sum_left, ((), ()), 0)

    def test_great_ones(self):
        self.gives(sum_worth, ((LONG, plain.chain(59)),), 60 ^ 59)
        self.gives(sum_worth, ((plain.JUST_FEW, LONG, (10, ())),), 4 ^ 60)
        self.gives(sum_left, ((LONG, LONG), (tuple(range(33)), tuple(range(14)))), 33 ^ 14)
        self.gives(sum_worth, ((VEE,) * 60,), 0)
        self.gives(sum_worth, ((CAP,) * 61,), 2)


class Balances(Case):

    def test_balanced(self):
        for orders, others in itertools.product(LOTS, LOTS):
            told = as_one(orders, wholes(orders)) == as_one(others, wholes(others))
            self.assertIs(are_balanced(orders, others), told)
            self.assertIs(are_balanced(others, orders), told)

    def test_all_pairs_of_small_orders(self):
        small = plain.small_orders(3)
        for order, other in itertools.product(small, small):
            told = plain.worth(order, plain.whole(order)) == plain.worth(other, plain.whole(other))
            self.gives(are_balanced, ((order,), (other,)), told)
            self.assertIs(are_balanced((order, other), ()), told)
            self.assertIs(are_balanced((), (order, other)), told)
            self.assertIs(are_balanced((order, order), ()), True)

    def test_balance(self):
        for orders in LOTS:
            self.gives(balance, (orders,), plain.chain(as_one(orders, wholes(orders))))
            self.assertIs(are_balanced(orders, (balance(orders),)), True)
            for many in range(9):
                self.assertIs(are_balanced(orders, (plain.chain(many),)), plain.chain(many) == balance(orders))
        self.gives(balance, ((),), (0, ()))
        self.gives(balance, ((LONG, ONE),), plain.chain(61))
        self.gives(balance, ((LONG, LONG),), (0, ()))
        self.gives(are_balanced, ((), ()), True)


class Spots(Case):

    def test_winning_spots(self):
        for orders in LOTS + [(order, other) for order, other in itertools.product(plain.all_orders(3), repeat=2)]:
            for lefts in some_lefts(orders):
                good = good_spots(orders, lefts)
                self.assertEqual(winning_spots(orders, lefts), good)
                self.assertIs(bool(good), as_one(orders, lefts) > 0)
                if good:
                    self.assertIn(winning_spot(orders, lefts), good)
                else:
                    self.assertEqual(ended(winning_spot, (orders, lefts)), "raises CanNot()")

    def test_is_winning_spot(self):
        for orders in LOTS:
            lefts = wholes(orders)
            good = good_spots(orders, lefts)
            for spot in itertools.product(range(-2, 5), range(-2, 5)):
                self.assertIs(is_winning_spot(orders, lefts, spot), spot in good)

    def test_behind_spot(self):
        for orders in LOTS:
            for lefts in some_lefts(orders):
                for spot in spots(lefts):
                    self.assertEqual(behind_spot(orders, lefts, *spot), behind(orders, lefts, *spot))

    def test_answers(self):
        for orders in LOTS + [(VEE, VEE), (CAP, TWO, CAP), (ZIG, TWO)]:
            for lefts in some_lefts(orders):
                lost = as_one(orders, lefts) == 0
                for spot in spots(lefts):
                    good = good_spots(orders, behind(orders, lefts, *spot))
                    for other in itertools.product(range(-1, 4), range(-1, 4)):
                        self.assertIs(is_answer_spot(orders, lefts, *spot, other), other in good)
                    if lost:
                        self.assertIn(answer_spot(orders, lefts, *spot), good)
                    else:
                        self.assertEqual(ended(answer_spot, (orders, lefts, *spot)), "raises CanNot()")

    def test_in_every_guise(self):
        for orders in LOTS:
            for lefts in some_lefts(orders)[::3]:
                self.gives(winning_spots, (orders, lefts), good_spots(orders, lefts))
                told = ended(winning_spot, (orders, lefts))
                self.in_every_guise(winning_spot, (orders, lefts), told)
                for spot in spots(lefts)[::2]:
                    self.gives(behind_spot, (orders, lefts, *spot), behind(orders, lefts, *spot))
                    told = ended(answer_spot, (orders, lefts, *spot))
                    self.in_every_guise(answer_spot, (orders, lefts, *spot), told)
                    self.gives(is_answer_spot, (orders, lefts, *spot, (0, 0)),
                               (0, 0) in good_spots(orders, behind(orders, lefts, *spot)))
                    self.gives(is_winning_spot, (orders, lefts, spot), spot in good_spots(orders, lefts))

    def test_no_orders_at_all(self):
        self.gives(winning_spots, ((), ()), ())
        self.refuses(winning_spot, ((), ()), "CanNot()")
        self.gives(is_winning_spot, ((), (), (0, 0)), False)
        for function, more in ((behind_spot, ()), (answer_spot, ()), (is_answer_spot, ((0, 0),))):
            self.refuses(function, ((), (), 0, 0, *more), "NoPiece(piece=(0, 0))")

    def test_a_spot_whatever_thing_is(self):
        orders, lefts = (TWO, CAP), ((0, 1), SOLID)
        for thing in things():
            told = repr(thing)
            self.gives(is_winning_spot, (orders, lefts, thing), told == "(1, 2)")
            self.gives(is_winning_spot, ((TWO, TWO), ((0, 1), (0,)), thing), told in ("(0, 0)", "(0, 1)", "(1, 0)"))
            self.gives(is_answer_spot, ((ONE, ONE), ((0,), (0,)), 1, 0, thing), told == "(0, 0)")
            self.gives(is_answer_spot, ((TWO, TWO), ((0, 1), ()), 0, 0, thing), told == "(0, 1)")
        for bad in ([0, 1], (0, True), (False, 1), (0, 1, 0), (0,), (0, "1"), (0, (1,)), "01", 1, None, (0, 1.0), ((0, 1),)):
            self.gives(is_answer_spot, ((TWO, TWO), ((0, 1), ()), 0, 0, bad), False)
            self.gives(is_winning_spot, ((TWO, TWO), ((1,), ()), bad), False)
        self.gives(is_winning_spot, ((TWO, TWO), ((1,), ()), (0, 1)), True)

    def test_great_ones(self):
        self.gives(winning_spots, ((LONG, LONG), (tuple(range(60)), tuple(range(20)))), ((0, 20),))
        self.gives(winning_spot, ((LONG, LONG), (tuple(range(60)), tuple(range(20)))), (0, 20))
        self.gives(answer_spot, ((LONG, LONG), (tuple(range(60)),) * 2, 0, 20), (1, 20))
        self.gives(behind_spot, ((LONG, ONE), (tuple(range(60)), (0,)), 0, 20), (tuple(range(20)), (0,)))


class Refused(Case):

    def test_what_are_no_orders(self):
        for bad in BAD_ORDERS:
            for orders in ((bad,), (VEE, bad), [bad, VEE]):
                self.unfit(sum_worth, orders)
                self.unfit(balance, orders)
                self.unfit(are_balanced, orders, (VEE,))
                self.unfit(are_balanced, (VEE,), orders)
                self.with_lefts(orders, ((),) * len(orders))
        for bad in (None, "", "ab", 0, True, {}, {1}, 1.5, VEE, ONE, (None,), ((),), ("",), *NO_END):
            self.unfit(sum_worth, bad)
            self.unfit(balance, bad)
            self.unfit(are_balanced, bad, ())
            self.unfit(are_balanced, (), bad)
            self.with_lefts(bad, ())

    def test_what_are_no_lefts(self):
        for bad in (None, "", "0", 0, True, {}, {0}, 1.5, (0, 0), (1, 0), (3,), (0, 3), (-1,), (True,), (0, True), (0, "1"),
                    ((0,),), (1,), (1, 2), ((),)):
            self.with_lefts((VEE, CAP), (bad, (0,)))
            self.with_lefts((CAP, VEE), [(0,), bad])
        for bad in (None, "", 0, True, {}, 1.5, (), ((),), ((), (), ()), (0, 1), "01", ((0,), None), {0: (), 1: ()}, *NO_END):
            self.with_lefts((VEE, CAP), bad)
        for bad in (((),), (0,), None, "", {}):
            self.with_lefts((), bad)

    def with_lefts(self, orders, lefts):
        """Unfit(), whatever the other arguments are."""
        for function in (sum_left, winning_spots, winning_spot):
            self.unfit(function, orders, lefts)
        self.unfit(is_winning_spot, orders, lefts, (0, 0))
        for spot in ((0, 0), (9, -1), (None, 0)):
            self.unfit(behind_spot, orders, lefts, *spot)
            self.unfit(answer_spot, orders, lefts, *spot)
            self.unfit(is_answer_spot, orders, lefts, *spot, (0, 0))

    def test_what_is_no_number(self):
        for bad in NO_NUMBERS:
            for spot in ((bad, 0), (0, bad), (bad, 9), (9, bad), (bad, bad)):
                for orders in ((VEE, CAP), (VEE, plain.ELEVEN)):
                    self.unfit(behind_spot, orders, ((0,), (0,)), *spot)
                    self.unfit(answer_spot, orders, ((0,), (0,)), *spot)
                    self.unfit(is_answer_spot, orders, ((0,), (0,)), *spot, (0, 0))

    def test_no_piece(self):
        for orders, lefts in (((VEE, ZIG, EMPTY), ((0, 2), (1, 3), ())), ((VEE, ZIG), ((0, 2), (0, 1, 2)))):
            self.no_piece(orders, lefts)

    def no_piece(self, orders, lefts):
        for spot in itertools.product((-3, -2, -1, 0, 1, 2, 3, 10 ** 6), (-4, -1, 0, 1, 2, 3, 4, 10 ** 6)):
            if spot not in spots(lefts):
                told = f"NoPiece(piece={spot})"
                self.refuses(behind_spot, (orders, lefts, *spot), told)
                self.refuses(answer_spot, (orders, lefts, *spot), told)
                self.refuses(is_answer_spot, (orders, lefts, *spot, (0, 0)), told)
                self.refuses(is_answer_spot, (orders, lefts, *spot, None), told)

    def test_too_many_lefts(self):
        for order in plain.MANY_LEFTS:
            for orders in ((order,), (VEE, order), (order, VEE, order)):
                self.refuses(sum_worth, (orders,), "TooMany()")
                self.refuses(balance, (orders,), "TooMany()")
                self.refuses(are_balanced, (orders, ()), "TooMany()")
                self.refuses(are_balanced, ((CAP,), orders), "TooMany()")
                lefts = ((),) * len(orders)
                for function in (sum_left, winning_spots, winning_spot):
                    self.refuses(function, (orders, lefts), "TooMany()")
                self.refuses(is_winning_spot, (orders, lefts, None), "TooMany()")
                for spot in ((0, 0), (9, 9), (-1, 0)):
                    self.refuses(behind_spot, (orders, lefts, *spot), "TooMany()")
                    self.refuses(answer_spot, (orders, lefts, *spot), "TooMany()")
                    self.refuses(is_answer_spot, (orders, lefts, *spot, (0, 0)), "TooMany()")

    def test_unfit_comes_ahead_of_too_many(self):
        for bad in (None, VEE[1], (2, ((1, 0),))):
            self.unfit(sum_worth, (plain.ELEVEN, bad))
            self.unfit(are_balanced, (plain.ELEVEN,), (bad,))
            self.unfit(are_balanced, (bad,), (plain.ELEVEN,))
        self.with_lefts((plain.ELEVEN, VEE), ((), (1,)))
        self.with_lefts((plain.ELEVEN,), ((11,),))

    def test_no_piece_comes_ahead_of_cannot(self):
        self.refuses(answer_spot, ((VEE, CAP), (SOLID, SOLID), 0, 3), "NoPiece(piece=(0, 3))")
        self.refuses(answer_spot, ((VEE, CAP), (SOLID, SOLID), 2, 0), "NoPiece(piece=(2, 0))")
        self.refuses(answer_spot, ((VEE, CAP), (SOLID, SOLID), 1, 0), "CanNot()")


if __name__ == "__main__":
    unittest.main()
