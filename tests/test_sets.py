"""[11]: sets of worths, behind and beside."""

import itertools
import unittest

from eatenorders import sets
from eatenorders.sets import first_unlike, lacking, place_of, set_beside, set_of_many, set_off, set_stacked, worth_by_set
from tests import plain
from tests.checks import NO_END, NO_NUMBERS, Case, ended

EXAMPLES = r"""
    >>> lacking((0, 2), 0), lacking((0, 2), 1), lacking((0, 2), 5), lacking((), 9), place_of((0, 2), 7), worth_by_set((0, 1, 2)), worth_by_set((1,))
    (1, 3, 7, 9, 5, 3, 0)
    >>> set_stacked((0, 1), (0,)), set_stacked((0, 2), (0, 1)), set_stacked((), (0, 5)), set_stacked((1,), (0,))
    ((0, 1, 2), (0, 1, 2, 3), (0, 5), (0, 1))
    >>> set_beside((0, 1), (0,)), set_beside((0, 2), (0,)), set_beside((0,), (0,)), set_beside((0, 3), ())
    ((0, 1, 2), (1, 3), (1,), (0, 3))
    >>> set_off((0, 1, 2, 3), (0, 2)), set_off((0, 2), ()), set_off((0, 2), (0, 2)), first_unlike((0, 1), (0, 2)), first_unlike((0, 1, 4), (0, 1, 5))
    ((0, 1), (0, 2), (), 0, 2)
    >>> set_of_many((0,), 2), set_of_many((0, 2), 3), set_of_many((0, 1), 10 ** 6), set_of_many((0, 5), 0)
    ((1,), (0, 2), (2, 3), ())
    >>> place_of((0, 2), 2)
    raises CanNot()
    >>> set_off((0, 2), (0, 1))
    raises CanNot()
    >>> first_unlike((3,), (3,))
    raises CanNot()
    >>> set_stacked((1, 0), ())
    raises Unfit()
"""

WRONG = (None, True, 0, 3, "", "ab", "0", {}, {0, 1}, {0: 1}, 1.5, (True,), (False,), (0, True), (None,), ("0",), (1.0,),
         ((0,),), ((),), (0, (1,)), (-1,), (-1, 0), (0, 0), (1, 0), (0, 2, 1), (0, 1, 1), (0, "1"), (0, None), (0, 1.0),
         (10 ** 6, 0), *NO_END)
NO_NUMBERS_FROM = NO_NUMBERS + (-1, -10 ** 6, *NO_END)
SMALL = plain.sets_below(5)
SOME = plain.sets_below(4) + [(7,), (0, 9), (1, 2, 3, 5, 8), (4, 11, 12), (0, 1, 2, 6, 7, 30)]
MILLION = 10 ** 6


def stacked(worths, other):
    return tuple(sorted({*worths, *(plain.lacking(worths, place) for place in other)}))


def beside(worths, other):
    own, more = plain.lacking(worths, 0), plain.lacking(other, 0)
    return tuple(sorted({number ^ more for number in worths} | {number ^ own for number in other}))


def set_of(order):
    return plain.set_left(order, plain.whole(order))


class Examples(Case):

    def test_examples(self):
        self.examples(EXAMPLES, dict(vars(sets)))


class Lacking(Case):

    def test_what_is_lacking_and_at_which_place(self):
        for worths in plain.sets_below(6) + SOME:
            for place in range(12):
                number = plain.lacking(worths, place)
                self.assertEqual(lacking(worths, place), number)
                self.assertEqual(place_of(worths, number), place)
            self.assertEqual(worth_by_set(worths), plain.lacking(worths, 0))
            for number in worths:
                self.assertEqual(ended(place_of, (worths, number)), "raises CanNot()")

    def test_in_every_guise(self):
        for worths in SOME:
            self.gives(worth_by_set, (worths,), plain.lacking(worths, 0))
            for place in (0, 1, 3, 20):
                number = plain.lacking(worths, place)
                self.gives(lacking, (worths, place), number)
                self.gives(place_of, (worths, number), place)
            for number in worths:
                self.refuses(place_of, (worths, number), "CanNot()")

    def test_great_ones(self):
        self.gives(lacking, ((), MILLION), MILLION)
        self.gives(lacking, ((MILLION,), MILLION), MILLION + 1)
        self.gives(lacking, ((MILLION,), MILLION - 1), MILLION - 1)
        self.gives(lacking, (tuple(range(1000)), MILLION), MILLION + 1000)
        self.gives(lacking, (tuple(range(0, 2000, 2)), 5), 11)
        self.gives(place_of, ((), MILLION), MILLION)
        self.gives(place_of, (tuple(range(0, 2000, 2)), MILLION), MILLION - 1000)
        self.refuses(place_of, ((0, MILLION), MILLION), "CanNot()")
        self.gives(worth_by_set, (tuple(range(3000)),), 3000)
        self.gives(worth_by_set, ((MILLION,),), 0)
        self.gives(worth_by_set, ((),), 0)


class Two(Case):

    def test_stacked_and_beside(self):
        for worths, other in itertools.product(SMALL, repeat=2):
            self.assertEqual(set_stacked(worths, other), stacked(worths, other))
            self.assertEqual(set_beside(worths, other), beside(worths, other))

    def test_in_every_guise(self):
        for worths, other in itertools.product(SOME[::3], repeat=2):
            self.gives(set_stacked, (worths, other), stacked(worths, other))
            self.gives(set_beside, (worths, other), beside(worths, other))
            self.gives(set_off, (stacked(worths, other), worths), other)

    def test_set_off_is_the_one_that_was_put_on(self):
        for worths, other in itertools.product(SMALL, repeat=2):
            self.assertEqual(set_off(set_stacked(worths, other), worths), other)

    def test_set_off_of_any_two(self):
        for whole, worths in itertools.product(SMALL, repeat=2):
            found = [own for own in SMALL if stacked(worths, own) == whole]
            self.assertEqual(len(found), 1 if set(worths) <= set(whole) else 0)
            told = repr(found[0]) if found else "raises CanNot()"
            self.assertEqual(ended(set_off, (whole, worths)), told)

    def test_set_off_in_every_guise(self):
        self.refuses(set_off, ((0, 2), (1,)), "CanNot()")
        self.refuses(set_off, ((), (0,)), "CanNot()")
        self.gives(set_off, ((), ()), ())
        self.gives(set_off, ((0, 1, MILLION), (0, 1)), (MILLION - 2,))

    def test_first_unlike(self):
        for worths, other in itertools.product(SMALL, repeat=2):
            unlike = [place for place in range(12) if plain.lacking(worths, place) != plain.lacking(other, place)]
            told = repr(unlike[0]) if unlike else "raises CanNot()"
            self.assertEqual(ended(first_unlike, (worths, other)), told)
            self.assertIs(bool(unlike), worths != other)

    def test_first_unlike_in_every_guise(self):
        self.gives(first_unlike, ((0, 1, 4, 9), (0, 1, 4)), 6)
        self.gives(first_unlike, ((), (MILLION,)), MILLION)
        self.gives(first_unlike, ((0,), ()), 0)
        self.refuses(first_unlike, ((), ()), "CanNot()")
        self.refuses(first_unlike, ((0, MILLION), (0, MILLION)), "CanNot()")

    def test_of_three_whichever_two_are_put_together_first(self):
        for one, two, three in itertools.product(plain.sets_below(4), repeat=3):
            self.assertEqual(set_stacked(one, set_stacked(two, three)), set_stacked(set_stacked(one, two), three))
        known = sorted({set_of(order) for order in plain.small_orders(4)})
        for one, two, three in itertools.product(known, repeat=3):
            self.assertEqual(set_beside(one, set_beside(two, three)), set_beside(set_beside(one, two), three))
            self.assertEqual(set_beside(one, two), set_beside(two, one))

    def test_great_ones(self):
        long, even = tuple(range(5000)), tuple(range(0, 4000, 2))
        self.gives(set_stacked, (long, (0, 3, MILLION)), long + (5000, 5003, 5000 + MILLION))
        self.gives(set_stacked, (even, even), tuple(sorted(even + tuple(2 * place + 1 for place in even if place < 2000)
                                                            + tuple(place + 2000 for place in even if place >= 2000))))
        self.gives(set_beside, (long, ()), long)
        self.gives(set_beside, ((MILLION,), (MILLION,)), (MILLION,))
        self.gives(set_beside, ((0, MILLION), (0, 1)), (0, 1, 2, MILLION ^ 2))
        self.gives(set_off, (long, even), tuple(range(2000)) + tuple(range(2000, 3000)))


class Many(Case):

    def test_many_are_put_together_one_by_one(self):
        for worths in SMALL + SOME:
            whole = ()
            for many in range(7):
                self.assertEqual(set_of_many(worths, many), whole)
                whole = beside(whole, worths)

    def test_in_every_guise(self):
        for worths in SOME:
            self.gives(set_of_many, (worths, 0), ())
            self.gives(set_of_many, (worths, 1), worths)
            self.gives(set_of_many, (worths, 2), beside(worths, worths))
            self.gives(set_of_many, (worths, MILLION - 1), worths)
            self.gives(set_of_many, (worths, MILLION), beside(worths, worths))

    def test_many_orders(self):
        for order in plain.small_orders(3):
            for many in range(4 if order[0] < 3 else 3):
                lot = plain.side_by_side((0, ()), *[order] * many)
                self.assertEqual(set_of_many(set_of(order), many), set_of(lot))


class AllOrders(Case):

    def test_the_worth_is_the_least_number_that_is_lacking(self):
        for order in plain.small_orders() + plain.some_orders():
            self.assertEqual(worth_by_set(set_of(order)), plain.worth(order, plain.whole(order)))

    def test_two_orders_stacked_and_beside(self):
        for order, other in itertools.product(plain.small_orders(3) + list(plain.all_orders(4))[::5], repeat=2):
            self.assertEqual(set_stacked(set_of(order), set_of(other)), set_of(plain.stacked(order, other)))
            self.assertEqual(set_beside(set_of(order), set_of(other)), set_of(plain.side_by_side(order, other)))

    def test_a_chain_on_top(self):
        for order in plain.small_orders(4) + list(plain.all_orders(5))[::9]:
            for many in range(6):
                whole = plain.stacked(order, plain.chain(many))
                self.assertEqual(lacking(set_of(order), many), plain.worth(whole, plain.whole(whole)))

    def test_chains(self):
        for many in range(9):
            self.assertEqual(set_of(plain.chain(many)), tuple(range(many)))
            for more in range(5):
                self.gives(set_stacked, (tuple(range(many)), tuple(range(more))), tuple(range(many + more)))


class Refused(Case):

    def test_what_is_no_set(self):
        for bad in WRONG:
            self.unfit(worth_by_set, bad)
            for function in (lacking, place_of, set_of_many):
                for number in (0, 5, -1, None):
                    self.unfit(function, bad, number)
            for function in (set_stacked, set_beside, set_off, first_unlike):
                for other in ((), (0, 2), bad, None):
                    self.unfit(function, bad, other)
                    self.unfit(function, other, bad)

    def test_what_is_no_number_from_0(self):
        for bad in NO_NUMBERS_FROM:
            for function in (lacking, place_of, set_of_many):
                self.unfit(function, (0, 2), bad)
                self.unfit(function, (), bad)
                self.unfit(function, (1, 0), bad)

    def test_unfit_comes_ahead_of_cannot(self):
        self.unfit(place_of, (2, 0), 2)
        self.unfit(place_of, (True,), 1)
        self.unfit(set_off, (0, 2), (1, 1))
        self.unfit(set_off, (2, 0), (1,))
        self.unfit(first_unlike, (1, 0), (1, 0))
        self.unfit(first_unlike, (-1,), (-1,))


if __name__ == "__main__":
    unittest.main()
