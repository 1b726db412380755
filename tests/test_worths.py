"""[9]: worths."""

import unittest

from eatenorders import worths
from eatenorders.worths import bites_to, by_worth, is_winning_bite, is_won, lost_lefts, set_left, set_of_worths
from eatenorders.worths import winning_bite, winning_bites, worth, worth_left
from tests import plain
from tests.checks import BAD_ORDERS, NO_END, NO_NUMBERS, Case, lists, things

EXAMPLES = r"""
    >>> vee, cap, stalk = (3, ((0, 1), (0, 2))), (3, ((0, 2), (1, 2))), (3, ((0, 1), (1, 2)))
    >>> [worth(own) for own in (vee, cap, stalk, (2, ()), (0, ()))], [set_of_worths(own) for own in (vee, cap, stalk, (2, ()), (0, ()))]
    ([1, 2, 3, 0, 0], [(0, 2), (0, 1), (0, 1, 2), (1,), ()])
    >>> worth_left(vee, (0, 1)), set_left(cap, (0, 1)), is_won(cap, (0, 1)), is_won(cap, (0,))
    (2, (1,), False, True)
    >>> bites_to(vee, (0, 1, 2), 2), bites_to(vee, (0, 1, 2), 1), winning_bites(vee, (0, 1, 2)), winning_bites(cap, (0, 1, 2)), winning_bite(cap, (0, 1, 2))
    ((1, 2), (), (0,), (2,), 2)
    >>> [is_winning_bite(cap, (0, 1, 2), own) for own in (2, 0, True, (2,))], lost_lefts(cap), lost_lefts((2, ())), by_worth(vee), by_worth(cap)
    ([True, False, False, False], [(), (0, 1)], [(), (0, 1)], (1, 2, 2), (2, 2, 1))
    >>> divided = (6, ((0, 1), (0, 2), (1, 3), (1, 4), (2, 4), (3, 5), (4, 5)))
    >>> worth(divided), set_of_worths(divided), winning_bites(divided, (0, 1, 2, 3, 4, 5)), lost_lefts(divided)
    (5, (0, 1, 2, 3, 4), (0,), [()])
    >>> winning_bite(cap, (0, 1))
    raises CanNot()
    >>> worth_left(vee, (1,))
    raises Unfit()
    >>> worth((11, ()))
    raises TooMany()
"""

EMPTY, VEE, CAP = (0, ()), (3, ((0, 1), (0, 2))), (3, ((0, 2), (1, 2)))
ZIG, SLAB = (4, ((0, 2), (1, 2), (1, 3))), (4, ((0, 1), (0, 2), (1, 3), (2, 3)))
FEW = [EMPTY, (1, ()), (2, ()), VEE, CAP, ZIG, SLAB, *plain.random_orders(91, 3, 6, 30)]
STALK, SIXTY = plain.STALK, tuple(range(60))

BY_ORDER = (worth, set_of_worths, lost_lefts, by_worth)
BY_LEFT = (worth_left, set_left, is_won, winning_bites, winning_bite)


def pieces_to(order, left, number):
    return tuple(own for own in left if plain.worth(order, plain.bitten(order, left, own)) == number)


def counted(order):
    told = [plain.worth(order, left) for left in plain.lefts(order)]
    return tuple(told.count(number) for number in range(max(told) + 1))


class Examples(Case):

    def test_examples(self):
        self.examples(EXAMPLES, dict(vars(worths)))


class Worths(Case):

    def check(self, order):
        every = plain.whole(order)
        known = plain.lefts(order)
        self.assertEqual(worth(order), plain.worth(order, every))
        self.assertEqual(set_of_worths(order), plain.set_left(order, every))
        self.assertEqual(lost_lefts(order), [left for left in known if plain.worth(order, left) == 0])
        self.assertEqual(by_worth(order), counted(order))
        for left in known:
            self.check_left(order, left)

    def check_left(self, order, left):
        own = plain.worth(order, left)
        self.assertEqual(worth_left(order, left), own)
        self.assertEqual(set_left(order, left), plain.set_left(order, left))
        self.assertIs(is_won(order, left), own > 0)
        self.assertEqual(winning_bites(order, left), pieces_to(order, left, 0))
        if own > 0:
            self.assertIn(winning_bite(order, left), pieces_to(order, left, 0))
        else:
            self.refuses(winning_bite, (order, left), "CanNot()")

    def test_all_small_orders(self):
        for order in plain.small_orders(4) + list(plain.all_orders(5))[::3]:
            self.check(order)

    def test_all_orders_of_five(self):
        for order in plain.all_orders(5):
            self.assertEqual(worth(order), plain.worth(order, SIXTY[:5]))
            self.assertEqual(set_of_worths(order), plain.set_left(order, SIXTY[:5]))
            self.assertEqual(by_worth(order), counted(order))

    def test_greater_orders(self):
        for order in plain.some_orders()[::3]:
            self.check(order)

    def test_bites_to(self):
        for order in plain.small_orders(4) + plain.random_orders(92, 4, 6, 30):
            for left in plain.lefts(order):
                own = plain.worth(order, left)
                self.assertEqual(bites_to(order, left, own), ())
                for number in range(-1, len(left) + 2):
                    self.assertEqual(bites_to(order, left, number), pieces_to(order, left, number))
                    if 0 <= number < own:
                        self.assertTrue(bites_to(order, left, number))

    def test_in_every_guise(self):
        for order in FEW:
            every = plain.whole(order)
            self.gives(worth, (order,), plain.worth(order, every))
            self.gives(set_of_worths, (order,), plain.set_left(order, every))
            self.gives(lost_lefts, (order,), [own for own in plain.lefts(order) if plain.worth(order, own) == 0])
            self.gives(by_worth, (order,), counted(order))
            for left in plain.lefts(order)[::3]:
                own = plain.worth(order, left)
                self.gives(worth_left, (order, left), own)
                self.gives(set_left, (order, left), plain.set_left(order, left))
                self.gives(is_won, (order, left), own > 0)
                self.gives(winning_bites, (order, left), pieces_to(order, left, 0))
                for number in (-1, 0, 1, 2, own, 10 ** 6, -10 ** 6):
                    self.gives(bites_to, (order, left, number), pieces_to(order, left, number))
                if own:
                    self.gives(winning_bite, (order, left), winning_bite(order, left))
                    self.assertIs(is_winning_bite(order, left, winning_bite(order, left)), True)

    def test_the_empty_left(self):
        for order in FEW + [STALK]:
            self.gives(worth_left, (order, ()), 0)
            self.gives(set_left, (order, ()), ())
            self.gives(is_won, (order, ()), False)
            self.gives(winning_bites, (order, ()), ())
            self.gives(bites_to, (order, (), 0), ())
            self.refuses(winning_bite, (order, ()), "CanNot()")
        self.gives(by_worth, (EMPTY,), (1,))
        self.gives(lost_lefts, (EMPTY,), [()])

    def test_chains_and_loose_pieces(self):
        for many in (0, 1, 2, 7, 59, 60):
            every = tuple(range(many))
            self.gives(worth, (plain.chain(many),), many)
            self.gives(set_of_worths, (plain.chain(many),), every)
            self.gives(by_worth, (plain.chain(many),), (1,) * (many + 1))
            self.gives(lost_lefts, (plain.chain(many),), [()])
        self.gives(bites_to, (STALK, SIXTY, 17), (17,))
        self.gives(worth_left, (STALK, SIXTY[:40]), 40)
        for many in range(11):
            self.gives(worth, ((many, ()),), many % 2)
            self.gives(set_of_worths, ((many, ()),), () if many == 0 else ((1 - many % 2),))

    def test_worth_is_no_more_than_pieces(self):
        for order in plain.small_orders() + plain.some_orders():
            self.assertLessEqual(worth(order), order[0])
            self.assertNotIn(worth(order), set_of_worths(order))
            self.assertEqual(set_of_worths(order)[:worth(order)], tuple(range(worth(order))))

    def test_who_leaves_a_lost_one_takes_the_last_piece(self):
        for order in plain.small_orders(4) + list(plain.all_orders(5))[::7]:
            for left in plain.lefts(order):
                if is_won(order, left):
                    self.play_on(order, plain.bitten(order, left, winning_bite(order, left)))

    def play_on(self, order, left):
        for piece in left:
            behind = plain.bitten(order, left, piece)
            self.assertTrue(behind)
            self.play_on(order, plain.bitten(order, behind, winning_bite(order, behind)))

    def test_turned_upside_down_they_may_be_others(self):
        self.assertEqual((worth(VEE), worth(CAP), set_of_worths(VEE), set_of_worths(CAP)), (1, 2, (0, 2), (0, 1)))
        self.assertEqual((worth((2, ())), worth(EMPTY), set_of_worths((2, ())), set_of_worths(EMPTY)), (0, 0, (1,), ()))

    def test_just_two_thousand_lefts(self):
        order, every = plain.JUST_FEW, plain.whole(plain.JUST_FEW)
        # Three CHAINS of four and four loose pieces: 4 and 4 and 4 make 4, the loose ones 0.
        self.gives(worth, (order,), 4)
        self.gives(is_won, (order, every), True)
        self.assertEqual(set_of_worths(order), tuple(sorted({4 ^ 4 ^ less for less in range(4)} | {4 ^ 1})))
        self.assertEqual(sum(by_worth(order)), 2000)
        self.assertEqual(winning_bites(order, every), (0, 4, 8))
        chains = [(a ^ b ^ c, one) for a in range(5) for b in range(5) for c in range(5) for one in range(16)]
        lost = [own for own, one in chains if own ^ bin(one).count("1") % 2 == 0]
        self.assertEqual(len(lost_lefts(order)), len(lost))


class WinningBites(Case):

    def test_is_winning_bite(self):
        for order in plain.small_orders(4):
            for left in plain.lefts(order):
                for piece in range(-2, order[0] + 2):
                    expected = piece in pieces_to(order, left, 0)
                    self.assertIs(is_winning_bite(order, left, piece), expected)

    def test_whatever_thing_is(self):
        for thing in things():
            self.gives(is_winning_bite, (CAP, (0, 1, 2), thing), thing == 2 and not isinstance(thing, (bool, tuple)))
            self.gives(is_winning_bite, (VEE, (0, 1, 2), thing), repr(thing) == "0")
            self.gives(is_winning_bite, ((2, ()), (0, 1), thing), False)
        for bad in (True, (2,), [2], "2", 2.0, None, -1, 3):
            self.gives(is_winning_bite, (CAP, (0, 1, 2), bad), False)
        self.gives(is_winning_bite, ((2, ()), (1,), 1), True)
        self.gives(is_winning_bite, ((2, ()), (1,), True), False)
        self.gives(is_winning_bite, ((1, ()), (0,), False), False)

    def test_errors_whatever_thing_is(self):
        for thing in things():
            self.unfit(is_winning_bite, (2, ((1, 0),)), (), thing)
            self.unfit(is_winning_bite, VEE, (1,), thing)
            self.refuses(is_winning_bite, (plain.ELEVEN, (), thing), "TooMany()")


class Refused(Case):

    def test_what_is_no_order(self):
        for bad in BAD_ORDERS:
            for function in BY_ORDER:
                self.unfit(function, bad)
            for function in BY_LEFT:
                self.unfit(function, bad, ())
                self.unfit(function, bad, (1, 0))
            self.unfit(bites_to, bad, (), 0)
            self.unfit(bites_to, bad, None, None)
            self.unfit(is_winning_bite, bad, (), 0)

    def test_what_is_no_left(self):
        for bad in (None, "", "0", 0, True, {}, {0}, 1.5, (0, 0), (1, 0), (3,), (0, 3), (-1,), (True,), (0, True), (0, "1"),
                    (0, None), ((0,),), (1,), (2,), (1, 2), ((),), *NO_END):
            for own in (bad, lists(bad)):
                for function in BY_LEFT:
                    self.unfit(function, VEE, own)
                self.unfit(bites_to, VEE, own, 0)
                self.unfit(bites_to, VEE, own, None)
                self.unfit(is_winning_bite, VEE, own, 0)

    def test_what_is_no_number(self):
        for bad in NO_NUMBERS + NO_END:
            self.unfit(bites_to, VEE, (0, 1, 2), bad)
            self.unfit(bites_to, EMPTY, (), bad)

    def test_too_many_lefts(self):
        for order in plain.MANY_LEFTS:
            for function in BY_ORDER:
                self.refuses(function, (order,), "TooMany()")
            for left in ((), (0,), tuple(range(order[0]))):
                for function in BY_LEFT:
                    self.refuses(function, (order, left), "TooMany()")
                self.refuses(bites_to, (order, left, 0), "TooMany()")
                self.refuses(is_winning_bite, (order, left, 0), "TooMany()")

    def test_unfit_comes_ahead_of_too_many_and_cannot(self):
        for order in plain.MANY_LEFTS:
            for bad in (None, (1, 0), (60,), (True,), "0"):
                for function in BY_LEFT:
                    self.unfit(function, order, bad)
                self.unfit(bites_to, order, bad, 0)
                self.unfit(is_winning_bite, order, bad, 0)
            for bad in NO_NUMBERS:
                self.unfit(bites_to, order, (), bad)
            self.refuses(winning_bite, (order, ()), "TooMany()")
        for left in ((1,), (2,), (1, 2)):
            self.unfit(winning_bite, VEE, left)


if __name__ == "__main__":
    unittest.main()
