"""[19]: all orders of few pieces, and the least orders with a set."""

import unittest

from eatenorders import least
from eatenorders.least import all_sets, is_least_with, least_with, orders_of, sets_counted, with_set, worths_counted
from tests import plain
from tests.checks import NO_END, NO_NUMBERS, Case, ended, lists, things

EXAMPLES = r"""
    >>> [len(orders_of(own)) for own in range(6)], orders_of(2), orders_of(3)[:3]
    ([1, 1, 2, 7, 40, 357], [(2, ()), (2, ((0, 1),))], [(3, ()), (3, ((0, 1),)), (3, ((0, 1), (0, 2)))])
    >>> [all_sets(own) for own in range(4)], len(all_sets(4)), len(all_sets(5))
    ([[()], [(0,)], [(0, 1), (1,)], [(0,), (0, 1), (0, 1, 2), (0, 2)]], 9, 15)
    >>> sets_counted(2), sets_counted(3), [worths_counted(own) for own in range(5)], worths_counted(5)
    ((((0, 1), 1), ((1,), 1)), (((0,), 1), ((0, 1), 1), ((0, 1, 2), 4), ((0, 2), 1)), [(1,), (0, 1), (1, 0, 1), (0, 2, 1, 4), (14, 0, 13, 6, 7)], (10, 125, 47, 78, 45, 52))
    >>> [least_with(own) for own in ((), (0,), (1,), (0, 1), (0, 2), (1, 2), (0, 3))]
    [(0, ()), (1, ()), (2, ()), (2, ((0, 1),)), (3, ((0, 1), (0, 2))), (4, ((0, 2), (0, 3), (1, 2), (1, 3))), (5, ((0, 2), (0, 3), (1, 2), (1, 3)))]
    >>> with_set((0, 1), 3), with_set((1,), 3), len(with_set((0, 1, 2, 3), 4))
    ([(3, ((0, 2), (1, 2)))], [], 7)
    >>> [is_least_with((0, 1), own) for own in ((2, ((0, 1),)), (3, ((0, 2), (1, 2))), [2, ((0, 1),)], None)], is_least_with((2,), (3, ()))
    ([True, False, False, False], False)
    >>> least_with((2,))
    raises CanNot()
    >>> orders_of(6)
    raises TooMany()
    >>> with_set((1, 0), 9)
    raises Unfit()
"""

BY_MANY = (orders_of, all_sets, sets_counted, worths_counted)

# No sets of numbers from 0.
NO_SETS = (None, True, 0, "", "01", {}, {0}, 1.5, (0, 0), (1, 0), (-1,), (-1, 0), (True,), (0, True), (False,), (None,), ("0",), (1.0,),
           ((0,),), ((),), *NO_END)

# Numbers above 5, and far above.
GREATER = (6, 7, 60, 10 ** 6, 10 ** 40)


def set_of(order):
    return plain.set_left(order, plain.whole(order))


def orders_with(worths):
    """All ORDERS of up to five pieces with this SET, ascending."""
    return [order for order in plain.small_orders() if set_of(order) == worths]


class Examples(Case):

    def test_examples(self):
        self.examples(EXAMPLES, dict(vars(least)))


class Lists(Case):

    def test_all_orders(self):
        for many in range(6):
            self.gives(orders_of, (many,), list(plain.all_orders(many)))

    def test_all_sets(self):
        for many in range(6):
            self.gives(all_sets, (many,), sorted({set_of(order) for order in plain.all_orders(many)}))

    def test_counts(self):
        for many in range(6):
            sets = [set_of(order) for order in plain.all_orders(many)]
            self.gives(sets_counted, (many,), tuple((own, sets.count(own)) for own in sorted(set(sets))))
            worths = [plain.worth(order, plain.whole(order)) for order in plain.all_orders(many)]
            self.gives(worths_counted, (many,), tuple(worths.count(number) for number in range(many + 1)))
            self.assertEqual(sum(worths_counted(many)), len(orders_of(many)))

    def test_sets_have_numbers_below_many_alone(self):
        for many in range(6):
            for own in all_sets(many):
                self.assertTrue(all(0 <= number < many for number in own))
            self.assertIn(tuple(range(many)), all_sets(many))

    def test_with_set(self):
        for many in range(6):
            for own in plain.sets_below(5) + [(5,), (0, 1, 2, 3, 4, 5), (10 ** 6,), (0, 10 ** 40)]:
                told = [order for order in plain.all_orders(many) if set_of(order) == own]
                self.assertEqual(with_set(own, many), told)
        for own, many in (((), 0), ((0,), 1), ((), 1), ((0, 2), 3), ((0, 1, 2), 3), ((1, 2), 4), ((9,), 5)):
            self.gives(with_set, (own, many), [order for order in plain.all_orders(many) if set_of(order) == own])


class Least(Case):

    def test_all_sets_of_numbers_below_six(self):
        for own in plain.sets_below(6) + [(6,), (0, 1, 2, 3, 4, 6), (10 ** 6,), (0, 10 ** 40), tuple(range(1000))]:
            found = orders_with(own)
            if found:
                self.assertEqual(least_with(own), found[0])
                self.assertIs(is_least_with(own, found[0]), True)
                self.assertIs(is_least_with(own, found[-1]), len(found) == 1)
            else:
                self.assertEqual(ended(least_with, (own,)), "raises CanNot()")
                self.assertIs(is_least_with(own, (0, ())), False)

    def test_in_every_guise(self):
        for own in [()] + all_sets(3) + all_sets(4) + all_sets(5):
            found = orders_with(own)[0]
            self.gives(least_with, (own,), found)
            self.gives(is_least_with, (own, found), True)
            self.gives(is_least_with, (own, lists(found)), False)
        for own in ((2,), (3,), (0, 4, 5), (7,)):
            self.refuses(least_with, (own,), "CanNot()")
            for thing in (None, False, (), (0, ()), (3, ())):
                self.gives(is_least_with, (own, thing), False)

    def test_it_is_one_alone(self):
        for own in all_sets(4):
            told = [order for order in plain.small_orders() if is_least_with(own, order)]
            self.assertEqual(told, [least_with(own)])

    def test_whatever_thing_is(self):
        for thing in things():
            self.gives(is_least_with, ((), thing), repr(thing) == "(0, ())")
            self.gives(is_least_with, ((0,), thing), repr(thing) == "(1, ())")
            self.gives(is_least_with, ((0, 1), (2, thing)), repr(thing) == "((0, 1),)")
            self.gives(is_least_with, ((0,), (thing, ())), repr(thing) == "1")
            self.assertIs(is_least_with((2,), thing), False)
            self.unfit(is_least_with, (1, 0), thing)
        for bad in ((True, ()), [1, ()], (1, []), (1, (), ()), ((1, ()),), (1, None), (10 ** 40, ()), plain.STALK, plain.STREWN):
            self.gives(is_least_with, ((0,), bad), False)
        for bad in ((2, ([0, 1],)), (2, ((False, 1),)), (2, ((0, True),)), (2, [(0, 1)]), (3, ((0, 1),)), (2, ((0, 1), (0, 1)))):
            self.gives(is_least_with, ((0, 1), bad), False)
        for bad in NO_END:
            self.assertIs(is_least_with((0, 1), bad), False)


class Refused(Case):

    def test_many_of_five_and_of_six(self):
        for function in BY_MANY:
            self.assertEqual(len(function(5)) > 5, True)
            for many in GREATER:
                self.refuses(function, (many,), "TooMany()")
        self.assertEqual(len(with_set((0, 1, 2, 3, 4), 5)), len(orders_with((0, 1, 2, 3, 4))))
        for many in GREATER:
            self.refuses(with_set, ((), many), "TooMany()")
            self.refuses(with_set, ((0, 1), many), "TooMany()")

    def test_what_is_no_number_from_0(self):
        for bad in NO_NUMBERS + NO_END + (-1, -6, -10 ** 6):
            for function in BY_MANY:
                self.unfit(function, bad)
            self.unfit(with_set, (0,), bad)
            self.unfit(with_set, (1, 0), bad)

    def test_what_is_no_set(self):
        for bad in NO_SETS:
            for own in (bad, lists(bad)):
                self.unfit(least_with, own)
                for thing in (None, (0, ()), (1, ())):
                    self.unfit(is_least_with, own, thing)
                for many in (0, 3, 6, 10 ** 6, None, -1):
                    self.unfit(with_set, own, many)


if __name__ == "__main__":
    unittest.main()
