"""[20]: great orders."""

import itertools
import random
import unittest

from eatenorders import great, worths
from eatenorders.great import great_after, great_bite, great_bites, great_left, great_set, great_worth
from eatenorders.primes import is_prime, widest_prime
from tests import plain
from tests.checks import BAD_ORDERS, NO_END, NO_NUMBERS, Case, ended, lists

EXAMPLES = r"""
    >>> stalk, strewn = (60, tuple([(own, own + 1) for own in range(59)])), (60, ())
    >>> great_worth(stalk), great_set(stalk)[:3], great_set(strewn), great_worth(strewn), great_worth((59, ())), great_bites(strewn), great_bite(stalk)
    (60, (0, 1, 2), (1,), 0, 1, (), 0)
    >>> bent = (4, ((0, 2), (1, 2), (1, 3)))
    >>> great_set(bent), great_worth(bent), [great_after(bent, own) for own in range(4)], great_left(bent, (0, 1, 3)), great_left(bent, ()), great_set((0, ()))
    ((1, 2, 3), 0, [2, 1, 3, 2], 3, 0, ())
    >>> threes = (60, tuple([(low, 3 * (low // 3) + 3 + own) for low in range(57) for own in range(3)]))
    >>> great_worth(threes), great_set(threes) == tuple(range(20)), great_bites(threes), great_after(threes, 59), great_left(threes, (0, 1, 2, 4))
    (20, True, (0, 1, 2), 19, 2)
    >>> twelve = (12, ((0, 1), (1, 2), (2, 6), (3, 4), (4, 5), (5, 6), (5, 9), (6, 7), (7, 8), (9, 10), (10, 11)))
    >>> great_set(twelve), great_worth(twelve), great_bites(twelve)
    ((1, 2, 3, 4, 5, 6, 7, 9, 10), 0, ())
    >>> great_set((22, tuple(sorted([(own, 11 + own) for own in range(11)] + [(own, 12 + own) for own in range(10)]))))
    raises TooMany()
    >>> great_bite(strewn)
    raises CanNot()
    >>> great_after(bent, 4)
    raises NoPiece(piece=4)
    >>> great_left(bent, (2, 3))
    raises Unfit()
"""

EMPTY, ONE, DUO, VEE, EN = (0, ()), (1, ()), (2, ()), (3, ((0, 1), (0, 2))), plain.ENN
STALK, STREWN, SIXTY = plain.STALK, plain.STREWN, tuple(range(60))
CROWNED = plain.stacked(plain.fence(10), DUO)

# Three below, seven above: one above each lot of them.
LOTS = (10, tuple(sorted((low, 3 + lot) for lot in range(7) for low in range(3) if (lot + 1) >> low & 1)))

# PRIME ORDERS of three levels and more.
TOWERS = [(5, ((0, 1), (0, 2), (1, 3), (2, 4))), (6, ((0, 2), (0, 3), (1, 3), (2, 4), (3, 5))), (7, ((0, 2), (1, 2), (1, 3), (2, 4), (3, 5), (3, 6)))]

TOO_WIDE = (plain.fence(11), plain.fence(60), plain.side_by_side(STALK, plain.fence(11)), plain.stacked(plain.fence(12), VEE),
            plain.blown(EN, [ONE, ONE, plain.fence(11), ONE]), plain.blown(plain.fence(12), [DUO] * 12))

# No LEFTS of VEE.
NO_LEFTS = (None, True, 0, "", "0", {}, {0}, 1.5, (0, 0), (1, 0), (3,), (0, 3), (-1,), (True,), (0, True), (None,), ("0",), (1.0,),
            ((0,),), ((),), (1,), (2,), (1, 2), *NO_END)


def some_blown():
    """PRIME ORDERS, and others, with small ORDERS in the places of some pieces; each with few enough LEFTS to go through all."""
    rng = random.Random(20)
    small = plain.small_orders(3)[1:] + [EN]
    outer = [order for order in plain.all_orders(5) if is_prime(order)] + [plain.fence(6), plain.fence(7), plain.crown(3)] + TOWERS
    found = []
    for _ in range(60):
        order = rng.choice(outer)
        inner = [rng.choice(small) if rng.randrange(5) < 2 else ONE for _ in range(order[0])]
        found.append(plain.blown(order, inner))
    return [order for order in found if order[0] <= 14]


class Examples(Case):

    def test_examples(self):
        self.examples(EXAMPLES, dict(vars(great)))


class Few(Case):

    def check_all(self, order):
        """Everything of order beside the plain search."""
        whole = plain.whole(order)
        behind = [plain.worth(order, plain.bitten(order, whole, piece)) for piece in whole]
        won = tuple(piece for piece in whole if behind[piece] == 0)
        self.assertEqual(great_set(order), tuple(sorted(set(behind))))
        self.assertEqual(great_worth(order), plain.worth(order, whole))
        self.assertEqual([great_after(order, piece) for piece in whole], behind)
        self.assertEqual(great_bites(order), won)
        self.assertEqual(ended(great_bite, (order,)), repr(won[0]) if won else "raises CanNot()")

    def test_all_small_orders(self):
        for order in plain.small_orders():
            self.check_all(order)
            for left in plain.lefts(order):
                self.assertEqual(great_left(order, left), plain.worth(order, left))

    def test_some_orders(self):
        for order in plain.some_orders() + TOWERS + [plain.crown(4), plain.fence(8), plain.fence(9)]:
            if widest_prime(order) <= 10:
                self.check_all(order)
                for left in plain.lefts(order)[::11]:
                    self.assertEqual(great_left(order, left), plain.worth(order, left))

    def test_as_worths_tells(self):
        for order in plain.some_orders()[:9] + [EMPTY, VEE, EN, plain.JUST_FEW]:
            self.assertEqual(great_set(order), worths.set_of_worths(order))
            self.assertEqual(great_worth(order), worths.worth(order))
            self.assertEqual(great_bites(order), worths.winning_bites(order, plain.whole(order)))

    def test_in_every_guise(self):
        for order in (EMPTY, ONE, DUO, VEE, EN, plain.fence(7), plain.blown(EN, (VEE, ONE, DUO, EN))):
            whole = plain.whole(order)
            self.gives(great_set, (order,), plain.set_left(order, whole))
            self.gives(great_worth, (order,), plain.worth(order, whole))
            self.in_every_guise(great_bites, (order,), ended(great_bites, (order,)))
            self.in_every_guise(great_bite, (order,), ended(great_bite, (order,)))
            for left in plain.lefts(order)[::5]:
                self.gives(great_left, (order, left), plain.worth(order, left))
            for piece in whole:
                self.gives(great_after, (order, piece), plain.worth(order, plain.bitten(order, whole, piece)))
        self.gives(great_bites, (EMPTY,), ())
        self.refuses(great_bite, (EMPTY,), "CanNot()")
        self.refuses(great_bite, (EN,), "CanNot()")
        self.gives(great_bite, (VEE,), 0)


class ManyLefts(Case):

    def check_by_masks(self, order, step):
        """Everything of order beside a search through all its LEFTS, each step-th of these asked for."""
        known, above = plain.worths_by_masks(order)
        whole = 2 ** order[0] - 1
        behind = [known[whole & ~mask] for mask in above]
        self.assertEqual(great_set(order), tuple(sorted(set(behind))))
        self.assertEqual(great_worth(order), known[whole])
        self.assertEqual([great_after(order, piece) for piece in range(order[0])], behind)
        self.assertEqual(great_bites(order), tuple(piece for piece, number in enumerate(behind) if number == 0))
        for mask in sorted(known)[::step]:
            left = tuple(piece for piece in range(order[0]) if mask >> piece & 1)
            self.assertEqual(great_left(order, left), known[mask])

    def test_prime_orders_of_modules(self):
        for order in some_blown():
            self.check_by_masks(order, 37)

    def test_wide_ones(self):
        for order in (plain.blown(plain.fence(6), [plain.chain(3)] * 6), plain.blown(LOTS, [ONE] * 3 + [plain.chain(2)] * 7),
                      plain.blown(plain.fence(10), [DUO, ONE] * 5), plain.blown(plain.crown(4), [ONE, DUO] * 4), CROWNED):
            self.check_by_masks(order, 211)

    def test_stacked_and_beside(self):
        parts = (EN, plain.blown(EN, (VEE, ONE, DUO, EN)), plain.fence(5), VEE, plain.chain(3), (3, ()))
        for order, other in itertools.product(parts, repeat=2):
            self.check_by_masks(plain.stacked(order, other), 101)
            self.check_by_masks(plain.side_by_side(order, other), 701)


class GreatOnes(Case):

    def test_chains_and_loose_pieces(self):
        for many in (58, 59, 60, 119):
            self.gives(great_set, (plain.chain(many),), tuple(range(many)))
            self.gives(great_worth, (plain.chain(many),), many)
            self.gives(great_bites, (plain.chain(many),), (0,))
            self.gives(great_set, ((many, ()),), (1 - many % 2,))
            self.gives(great_worth, ((many, ()),), many % 2)
            self.gives(great_bites, ((many, ()),), tuple(range(many)) if many % 2 else ())
        self.gives(great_left, (STALK, SIXTY[:33]), 33)
        self.gives(great_left, (STREWN, SIXTY[::4]), 1)
        self.gives(great_left, (STREWN, SIXTY), 0)
        self.gives(great_after, (STALK, 17), 17)
        self.gives(great_after, (STREWN, 17), 1)

    def test_nim(self):
        highs = (3, 5, 6, 7, 11, 13, 15)
        order = plain.side_by_side(*[plain.chain(high) for high in highs])
        whole = 3 ^ 5 ^ 6 ^ 7 ^ 11 ^ 13 ^ 15
        self.gives(great_worth, (order,), whole)
        begins = [sum(highs[:at]) for at in range(len(highs))]
        won = tuple(begin + (high ^ whole) for begin, high in zip(begins, highs) if high ^ whole < high)
        self.gives(great_bites, (order,), won)
        self.gives(great_left, (order, tuple(begins)), 1)

    def test_modules_of_modules_of_sixty_pieces(self):
        """PRIME ORDERS of ten, each piece of which is a module that a piece, or nothing, may stand for."""
        for inner, stands in (((6, ()), DUO), ((5, ()), ONE)):
            self.assertEqual(set_of(inner), set_of(stands))
            for outer in (plain.fence(10), LOTS):
                order = plain.blown(outer, [inner] * 10)
                self.assertEqual(great_set(order), great_set(plain.blown(outer, [stands] * 10)))
        order = plain.blown(plain.fence(10), [(5, ())] * 10)
        self.assertEqual(great_set(order), plain.set_left(plain.fence(10), tuple(range(10))))
        left = tuple(piece for piece in range(50) if piece < 25 or piece // 5 == 7)
        self.gives(great_left, (order, left), plain.worth(plain.fence(10), (0, 1, 2, 3, 4, 7)))

    def test_an_n_of_chains(self):
        order = plain.blown(EN, [plain.chain(15)] * 4)
        cut = plain.blown(EN, [plain.chain(15), plain.chain(15), plain.chain(4), plain.chain(9)])
        left = tuple(range(34)) + tuple(range(45, 54))
        self.assertEqual(great_left(order, left), great_worth(cut))
        self.assertEqual(great_left(order, SIXTY[:30]), 15 ^ 15)
        self.assertEqual(great_left(order, SIXTY), great_worth(order))
        self.assertEqual(great_after(order, 30), great_worth(plain.blown(EN, [plain.chain(15), plain.chain(15), EMPTY, plain.chain(15)])))

    def test_ten_and_eleven_in_a_prime_part(self):
        for order in (plain.fence(10), plain.side_by_side(STREWN, plain.fence(10)), CROWNED, LOTS,
                      plain.blown(plain.fence(10), [DUO] * 10), plain.side_by_side(plain.fence(10), plain.fence(10))):
            self.assertEqual(widest_prime(order), 10)
            self.assertEqual(great_worth(order), least_lacking(great_set(order)))
        for order in TOO_WIDE:
            self.assertGreater(widest_prime(order), 10)
            for function in (great_set, great_worth, great_bites, great_bite):
                self.refuses(function, (order,), "TooMany()")
            self.refuses(great_left, (order, ()), "TooMany()")
            self.refuses(great_left, (order, (0,)), "TooMany()")
            self.refuses(great_left, (order, plain.whole(order)), "TooMany()")
            for piece in (0, order[0] - 1):
                self.refuses(great_after, (order, piece), "TooMany()")

    def test_each_bite_leaves_what_its_left_has(self):
        for order in (CROWNED, plain.blown(EN, [plain.chain(9), (7, ()), VEE, plain.fence(6)]), plain.stacked(STREWN, VEE)):
            for piece in range(0, order[0], 3):
                left = plain.bitten(order, plain.whole(order), piece)
                self.assertEqual(great_after(order, piece), great_left(order, left))


def set_of(order):
    return plain.set_left(order, plain.whole(order))


def least_lacking(numbers):
    return plain.lacking(numbers, 0)


class Refused(Case):

    def test_what_is_no_order(self):
        for bad in BAD_ORDERS + NO_END:
            for function in (great_set, great_worth, great_bites, great_bite):
                self.unfit(function, bad)
            for other in ((), (1,), None):
                self.unfit(great_left, bad, other)
            for piece in (0, -1, None):
                self.unfit(great_after, bad, piece)

    def test_what_is_no_left(self):
        for bad in NO_LEFTS:
            for own in (bad, lists(bad)):
                self.unfit(great_left, VEE, own)
                self.unfit(great_left, (3, ((0, 1), (1, 2))), own)

    def test_what_is_no_number(self):
        for bad in NO_NUMBERS + NO_END:
            for order in (VEE, EMPTY, *TOO_WIDE):
                self.unfit(great_after, order, bad)

    def test_what_is_no_piece(self):
        for order in (VEE, EMPTY, *TOO_WIDE):
            for piece in (-1, -order[0] - 1, order[0], order[0] + 1, 10 ** 6):
                self.refuses(great_after, (order, piece), f"NoPiece(piece={piece})")

    def test_unfit_comes_ahead_of_too_many(self):
        for order in TOO_WIDE:
            for bad in ((order[0],), (1, 0), (-1,), None, (True,)):
                self.unfit(great_left, order, bad)
        self.unfit(great_left, plain.fence(11), (6,))
        self.unfit(great_set, (60, ((0, 60),)))


if __name__ == "__main__":
    unittest.main()
