"""[16]: what may be exchanged."""

import itertools
import unittest

from eatenorders import exchange
from eatenorders.exchange import exchanged, is_parting, may_exchange, parted_by, parting, parting_company, same_everywhere
from eatenorders.great import great_worth
from tests import plain
from tests.checks import BAD_ORDERS, NO_END, Case, ended, lists, things

EXAMPLES = r"""
    >>> wedge, en, empty = (3, ((0, 2), (1, 2))), (4, ((0, 2), (1, 2), (1, 3))), (0, ())
    >>> [same_everywhere(*own) for own in ((two, wedge), (two, duo), (duo, empty), ((1, ()), (3, ())), (en, empty), (three, (3, ((0, 1),))))]
    [True, False, False, True, False, True]
    >>> parting(two, duo), parting(duo, empty), parting(vee, wedge), parting(empty, en), parting((3, ()), duo)
    ((0, 2, 0), (1, 2, 1), (0, 1, 2), (1, 1, 4), (0, 1, 0))
    >>> [is_parting(duo, empty, own) for own in ((1, 2, 1), (0, 0, 0), (2, 3, 2), (1, 1, 2), [1, 2, 1], (1, 2, True))]
    [True, False, True, False, False, False]
    >>> parting_company(duo, empty), parting_company((3, ()), duo)
    (((4, ((0, 1), (2, 3))), 0), ((2, ()), 0))
    >>> parted_by(parting_company(duo, empty), duo, empty), parted_by((three, 1), (1, ()), (3, ())), parted_by(((2, ()), 0), duo, empty)
    (True, False, False)
    >>> exchanged((5, ((0, 1), (0, 2), (0, 3), (1, 4), (2, 4), (3, 4))), (1, 2, 3), (1, ())), may_exchange((4, ((0, 1), (0, 2), (0, 3))), (1, 2, 3), (1, ())), may_exchange(three, (0, 1), duo)
    ((3, ((0, 1), (1, 2))), True, False)
    >>> parting(wedge, two)
    raises CanNot()
    >>> exchanged(three, (0, 2), two)
    raises Unfit()
"""

EMPTY, ONE, TWO, DUO, VEE, WEDGE = (0, ()), (1, ()), (2, ((0, 1),)), (2, ()), (3, ((0, 1), (0, 2))), (3, ((0, 2), (1, 2)))
THREE, SQUARE, EN = plain.chain(3), (4, ((0, 1), (0, 2), (1, 3), (2, 3))), plain.ENN
FEW = [EMPTY, ONE, TWO, DUO, VEE, WEDGE, THREE, SQUARE, EN, (3, ())]
WIDE, TEN = plain.fence(11), plain.fence(10)

NO_MODULES = (None, True, 0, "", "1", {}, {1}, 1.5, (), (0, 0), (2, 1), (4,), (-1,), (True,), (1, True), (None,), ("1",), (1.0,),
              ((1,),), (0, 1), (0, 2), (1, 3), (0, 1, 3), *NO_END)

BAD_COMPANIES = (None, True, 0, "", {}, 1.5, (), [], VEE, (VEE,), (VEE, 3), (VEE, -1), (VEE, True), (VEE, None), (VEE, (0,)),
                 (EMPTY, 0), (VEE, 0, 0), ((2, ((1, 0),)), 0), ((3, ((0, 1), (0, 2), (1, 2))), 0), *NO_END)

NO_PARTINGS = (None, True, 0, "", "121", {}, {0}, 1.5, (), (1,), (1, 2), (1, 2, 1, 0), [1, 2, 1], (1, 2, True), (True, 2, 1),
               (1, 2, "1"), (1, 2, None), (1, 2, 1.0), ((1,), 2, 1), (1, (2,), 1), (-1, 2, 1), (1, -2, 1), (1, 2, -1), (0, 0, 0),
               (1, 1, 2), (1, 1, 1), (1, 2, 2), (2, 2, 1), *NO_END)


def set_of(order):
    return plain.set_left(order, plain.whole(order))


def worth_of(order):
    return plain.worth(order, plain.whole(order))


def partings(order, other, most):
    """The PARTINGS with a top below most, from WORTHS with CHAINS on top."""
    found = []
    for top in range(most):
        one, two = [worth_of(plain.stacked(own, plain.chain(top))) for own in (order, other)]
        if one != two:
            found.append((top, one, two))
    return found


class Examples(Case):

    def test_examples(self):
        names = dict(vars(exchange))
        names.update(two=TWO, duo=DUO, vee=VEE, three=THREE)
        self.examples(EXAMPLES, names)


class Partings(Case):

    def test_same_everywhere_exactly_with_one_set(self):
        small = plain.small_orders(4)
        for order, other in itertools.product(small, repeat=2):
            self.assertIs(same_everywhere(order, other), set_of(order) == set_of(other))
        for order, other in zip(plain.all_orders(5), plain.all_orders(5)[7:]):
            self.assertIs(same_everywhere(order, other), set_of(order) == set_of(other))

    def test_the_parting_with_the_least_top(self):
        for order, other in itertools.product(plain.small_orders(3) + [SQUARE, EN], repeat=2):
            found = partings(order, other, 6)
            told = repr(found[0]) if found else "raises CanNot()"
            self.assertEqual(ended(parting, (order, other)), told)
            self.assertIs(same_everywhere(order, other), not found)
            for thing in itertools.product(range(5), repeat=3):
                self.assertIs(is_parting(order, other, thing), thing in found)

    def test_the_parting_company_parts(self):
        for order, other in itertools.product(plain.small_orders(3) + [SQUARE, EN], repeat=2):
            if same_everywhere(order, other):
                self.assertEqual(ended(parting_company, (order, other)), "raises CanNot()")
            else:
                top, near, _ = parting(order, other)
                company = parting_company(order, other)
                self.assertEqual(company, (plain.side_by_side(plain.chain(top + 1), plain.chain(near)), 0))
                self.assertEqual(worth_of(plain.put_in(company, order)), 0)
                self.assertGreater(worth_of(plain.put_in(company, other)), 0)
                self.assertIs(parted_by(company, order, other), True)

    def test_in_every_guise(self):
        for order, other in itertools.product(FEW, repeat=2):
            found = partings(order, other, 5)
            self.gives(same_everywhere, (order, other), not found)
            if found:
                top, near, _ = found[0]
                self.gives(parting, (order, other), found[0])
                self.gives(parting_company, (order, other), (plain.side_by_side(plain.chain(top + 1), plain.chain(near)), 0))
            else:
                self.refuses(parting, (order, other), "CanNot()")
                self.refuses(parting_company, (order, other), "CanNot()")
            for thing in found + [(0, 0, 1), (3, 4, 3)]:
                self.gives(is_parting, (order, other, thing), thing in found)

    def test_is_parting_whatever_thing_is(self):
        for bad in NO_PARTINGS:
            self.assertIs(is_parting(DUO, EMPTY, bad), False)
            self.assertIs(is_parting(DUO, DUO, bad), False)
        for thing in things():
            self.gives(is_parting, (DUO, EMPTY, thing), False)
            self.gives(is_parting, (DUO, EMPTY, (thing, 2, 1)), repr(thing) == "1")
            self.gives(is_parting, (DUO, EMPTY, (1, thing, 1)), repr(thing) == "2")
            self.gives(is_parting, (DUO, EMPTY, (1, 2, thing)), repr(thing) == "1")
        self.gives(is_parting, (DUO, EMPTY, (10 ** 40, 10 ** 40 + 1, 10 ** 40)), True)
        self.gives(is_parting, (DUO, EMPTY, (10 ** 40, 10 ** 40, 10 ** 40 + 1)), False)
        self.gives(is_parting, (VEE, WEDGE, (0, 1, 2)), True)
        self.gives(is_parting, (VEE, WEDGE, (1, 3, 3)), False)

    def test_great_ones(self):
        stalk, strewn = plain.STALK, plain.STREWN
        self.gives(same_everywhere, (strewn, DUO), True)
        self.gives(same_everywhere, ((59, ()), ONE), True)
        self.gives(parting, (stalk, strewn), (0, 60, 0))
        self.gives(parting, (strewn, EMPTY), (1, 2, 1))
        self.gives(parting_company, (strewn, stalk), (ONE, 0))
        self.gives(parting_company, (stalk, strewn), (plain.side_by_side(ONE, stalk), 0))
        self.gives(parting, (plain.chain(59), stalk), (0, 59, 60))
        self.gives(is_parting, (plain.chain(59), stalk, (10 ** 6, 10 ** 6 + 59, 10 ** 6 + 60)), True)
        self.gives(parted_by, ((strewn, 30), stalk, plain.chain(59)), True)
        self.gives(parted_by, ((stalk, 30), strewn, DUO), False)
        blown = plain.blown(TEN, [(6, ())] * 10)
        self.gives(same_everywhere, (blown, plain.blown(TEN, [DUO] * 10)), True)


class Companies(Case):

    def companies(self, most):
        return [(order, hole) for order in plain.small_orders(most) for hole in range(order[0])]

    def test_parted_by(self):
        for company in self.companies(3) + [(SQUARE, 1), (EN, 0), (EN, 1), (EN, 2)]:
            for order, other in itertools.product(FEW, repeat=2):
                told = worth_of(plain.put_in(company, order)) != worth_of(plain.put_in(company, other))
                self.assertIs(parted_by(company, order, other), told)
                if set_of(order) == set_of(other):
                    self.assertIs(told, False)

    def test_all_companies_of_four_and_all_shapes_of_four(self):
        shapes = sorted({plain.form(order) for order in plain.small_orders(4)})
        for company in self.companies(4):
            worths = {order: worth_of(plain.put_in(company, order)) for order in shapes}
            by_set = {}
            for order in shapes:
                by_set.setdefault(set_of(order), set()).add(worths[order])
            self.assertEqual({len(found) for found in by_set.values()}, {1})
            for order, other in zip(shapes, shapes[3:] + shapes[:3]):
                self.assertIs(parted_by(company, order, other), worths[order] != worths[other])

    def test_in_every_guise(self):
        for company in ((TWO, 0), (VEE, 0), (EN, 1), (ONE, 0)):
            for order, other in itertools.combinations(FEW, 2):
                told = worth_of(plain.put_in(company, order)) != worth_of(plain.put_in(company, other))
                self.gives(parted_by, (company, order, other), told)

    def test_exchanged(self):
        for order in plain.small_orders(4) + list(plain.all_orders(5))[::6]:
            for module in plain.modules(order):
                kept = [piece for piece in range(order[0]) if piece not in module[1:]]
                company = (plain.part(order, kept), kept.index(module[0]))
                for other in FEW[::2]:
                    self.check_exchange(order, module, other, plain.put_in(company, other))

    def check_exchange(self, order, module, other, whole):
        self.assertEqual(exchanged(order, module, other), whole)
        may = set_of(plain.part(order, module)) == set_of(other)
        self.assertIs(may_exchange(order, module, other), may)
        if may:
            self.assertEqual(worth_of(whole), worth_of(order))

    def test_exchanged_in_every_guise(self):
        for order in (ONE, VEE, SQUARE, EN, (3, ())):
            for module, other in itertools.product(plain.modules(order), (EMPTY, ONE, TWO, VEE)):
                kept = [piece for piece in range(order[0]) if piece not in module[1:]]
                company = (plain.part(order, kept), kept.index(module[0]))
                self.gives(exchanged, (order, module, other), plain.put_in(company, other))
                self.gives(may_exchange, (order, module, other), set_of(plain.part(order, module)) == set_of(other))

    def test_exchange_over_and_over(self):
        order = plain.blown(EN, [(3, ()), DUO, (4, ()), (5, ())])
        whole = worth_of(order)
        for module, other in (((9, 10, 11, 12, 13), ONE), ((5, 6, 7, 8), DUO), ((0, 1, 2), ONE)):
            self.assertIs(may_exchange(order, module, other), True)
            order = exchanged(order, module, other)
            self.assertEqual(great_worth(order), whole)
        self.assertEqual(order[0], 6)


class TooWide(Case):

    def test_ten_and_eleven_in_a_prime_part(self):
        for wide in (WIDE, plain.fence(60), plain.side_by_side(WIDE, VEE), plain.stacked(plain.fence(12), plain.fence(4))):
            for order, other in ((wide, VEE), (VEE, wide), (wide, wide), (TEN, wide)):
                for function in (same_everywhere, parting, parting_company):
                    self.refuses(function, (order, other), "TooMany()")
                for thing in (None, (0, 0, 1), (0, 1, 2)):
                    self.refuses(is_parting, (order, other, thing), "TooMany()")
                self.refuses(parted_by, ((VEE, 0), order, other), "TooMany()")
        self.gives(same_everywhere, (TEN, TEN), True)
        self.refuses(parting, (TEN, TEN), "CanNot()")
        self.refuses(parting_company, (TEN, TEN), "CanNot()")
        self.gives(is_parting, (TEN, TEN, (0, 0, 1)), False)

    def test_parted_by_asks_for_what_comes_of_it(self):
        self.refuses(parted_by, ((WIDE, 0), DUO, DUO), "TooMany()")
        self.refuses(parted_by, ((WIDE, 0), ONE, EMPTY), "TooMany()")
        # Without a piece in its midst a fence of eleven falls into two.
        self.gives(parted_by, ((WIDE, 2), EMPTY, EMPTY), False)
        self.refuses(parted_by, ((WIDE, 2), EMPTY, ONE), "TooMany()")
        self.refuses(parted_by, ((WIDE, 2), ONE, EMPTY), "TooMany()")
        self.gives(parted_by, ((TEN, 0), DUO, DUO), False)

    def test_may_exchange_asks_for_both_parts_alone(self):
        order = plain.side_by_side(WIDE, DUO)
        self.gives(may_exchange, (order, (11, 12), DUO), True)
        self.gives(may_exchange, (order, (12,), DUO), False)
        self.refuses(may_exchange, (order, tuple(range(11)), DUO), "TooMany()")
        self.refuses(may_exchange, (order, (11, 12), WIDE), "TooMany()")
        self.refuses(may_exchange, (WIDE, tuple(range(11)), WIDE), "TooMany()")

    def test_exchanged_asks_for_none(self):
        order = plain.side_by_side(WIDE, DUO)
        self.gives(exchanged, (order, (11, 12), WIDE), plain.side_by_side(WIDE, WIDE))
        self.gives(exchanged, (order, tuple(range(11)), ONE), (3, ()))
        self.gives(exchanged, (WIDE, tuple(range(11)), plain.fence(60)), plain.fence(60))


class Refused(Case):

    def test_what_is_no_order(self):
        for bad in BAD_ORDERS + NO_END:
            for other in (VEE, bad, WIDE, None):
                for function in (same_everywhere, parting, parting_company):
                    self.unfit(function, bad, other)
                    self.unfit(function, other, bad)
                self.unfit(is_parting, bad, other, (0, 0, 1))
                self.unfit(is_parting, other, bad, None)
                self.unfit(parted_by, (VEE, 0), bad, other)
                self.unfit(parted_by, (VEE, 0), other, bad)
                self.unfit(parted_by, (WIDE, 0), other, bad)
            for module in ((0,), (), None):
                self.unfit(exchanged, bad, module, VEE)
                self.unfit(may_exchange, bad, module, VEE)
            self.unfit(exchanged, SQUARE, (1, 2), bad)
            self.unfit(may_exchange, SQUARE, (1, 2), bad)
            self.unfit(may_exchange, WIDE, tuple(range(11)), bad)

    def test_what_is_no_module(self):
        for bad in NO_MODULES:
            for own in (bad, lists(bad)):
                for other in (VEE, WIDE, None):
                    self.unfit(exchanged, SQUARE, own, other)
                    self.unfit(may_exchange, SQUARE, own, other)

    def test_what_is_no_company(self):
        for bad in BAD_COMPANIES:
            for own in (bad, lists(bad)):
                for order, other in ((VEE, DUO), (WIDE, VEE), (None, None)):
                    self.unfit(parted_by, own, order, other)


if __name__ == "__main__":
    unittest.main()
