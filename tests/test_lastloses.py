"""[23]: the game in which the last one loses."""

import functools
import itertools
import random
import unittest

from eatenorders import lastloses
from eatenorders.lastloses import is_last_answers, is_last_paper, last_answers, last_bites, last_lost_lefts, last_paper
from eatenorders.lastloses import last_won, turned_lefts, without_least
from tests import plain
from tests.checks import BAD_ORDERS, NO_END, NO_LEFTS, Case, ended, lists, things

EXAMPLES = r"""
    >>> en, slab, strewn = (4, ((0, 2), (1, 2), (1, 3))), (4, ((0, 1), (0, 2), (1, 3), (2, 3))), (3, ())
    >>> last_won(en, (0, 1, 2, 3)), last_bites(en, (0, 1, 2, 3)), last_lost_lefts(en), last_lost_lefts(slab)
    (True, (1,), [(0,), (1,)], [(0,), (0, 1, 2)])
    >>> turned_lefts(en), turned_lefts(slab), last_won(strewn, (0, 1, 2)), last_won(strewn, (0, 2)), last_won(strewn, ())
    ([(), (0,), (0, 1), (0, 1, 2, 3), (1,)], [(), (0,), (0, 1, 2)], False, True, True)
    >>> is_last_paper(slab, (0, 1, 2, 3), (3, (((0, 1), 1), ((0, 2), 2)))), without_least(slab), without_least((1, ()))
    (True, (3, ((0, 2), (1, 2))), (0, ()))
    >>> both = (((0, 1), 1), ((0, 2), 2), ((1, 2), 2))
    >>> [is_last_answers(strewn, (0, 1, 2), own) for own in (both, both[:2], ())], is_last_answers(strewn, (0,), ()), is_last_answers(strewn, (), ())
    ([True, False, False], True, False)
    >>> is_last_paper(slab, (0, 1, 2, 3), last_paper(slab, (0, 1, 2, 3))), is_last_paper(strewn, (0, 1), (0, ())), is_last_paper(strewn, (0,), (0, ()))
    (True, True, False)
    >>> last_answers(en, (0, 1, 2, 3))
    raises CanNot()
    >>> last_paper(strewn, (0, 1, 2))
    raises CanNot()
    >>> without_least(en)
    raises CanNot()
"""

EMPTY, ONE, TWO, VEE, EN = (0, ()), (1, ()), (2, ()), (3, ((0, 1), (0, 2))), plain.ENN
SLAB, STREWN = (4, ((0, 1), (0, 2), (1, 3), (2, 3))), (3, ())
FEW = [EMPTY, ONE, TWO, VEE, EN, SLAB, STREWN, plain.chain(3)]
BOTH = (((0, 1), 1), ((0, 2), 2), ((1, 2), 2))
EVERY = (0, 1, 2)

BY_ORDER = (last_lost_lefts, turned_lefts)
BY_LEFT = (last_won, last_bites, last_answers, last_paper)

# No sets of pairs of a LEFT of STREWN and a piece of it.
NO_PAIRS = (None, True, 0, "", {}, 1.5, (0,), ((),), (((0,),),), (((0,), 0, 0),), ((0,), 0), (((0,), 1),), (((), 0),), (((), None),),
            (((1, 0), 0),), (((3,), 3),), (((0,), False),), (((0,), "0"),), (((0,), 0.0),), (((False,), 0),), (("0", 0),), ((None, 0),),
            BOTH[::-1], BOTH + BOTH, BOTH[:1] + (((0, 1), 0),), list(BOTH), ([(0, 1), 1],) + BOTH[1:], (([0, 1], 1),) + BOTH[1:],
            (((0, 1), True),) + BOTH[1:], BOTH + ((),), BOTH + (None,), {((0, 1), 1): 0}, *NO_END)


@functools.lru_cache(maxsize=None)
def is_last_won(order, left):
    """From the words: () is, another LEFT if some BITE leaves one that is not."""
    return left == () or any(not is_last_won(order, plain.bitten(order, left, piece)) for piece in left)


def bites_told(order, left):
    return tuple(piece for piece in left if not is_last_won(order, plain.bitten(order, left, piece)))


def are_last_answers(order, left, pairs):
    """From the words; pairs are known to be pairs of LEFTS and pieces of these."""
    named = dict(pairs)
    come = [left] + [plain.bitten(order, what, piece) for what, piece in pairs]
    behind = [plain.bitten(order, own, piece) for own in come for piece in own]
    return () not in come and all(own == () or own in named for own in behind)


def some_pairs(order, rng):
    return tuple((left, rng.choice(left)) for left in plain.lefts(order) if left and rng.randrange(4))


def most_pairs(order):
    """For each last-won LEFT, not (), a pair by which a last-lost one is left: of any last-lost one LAST ANSWERS."""
    return tuple((left, bites_told(order, left)[-1]) for left in plain.lefts(order) if left and is_last_won(order, left))


class Examples(Case):

    def test_examples(self):
        self.examples(EXAMPLES, dict(vars(lastloses)))


class Won(Case):

    def check(self, order):
        known = plain.lefts(order)
        self.assertEqual(last_lost_lefts(order), [left for left in known if not is_last_won(order, left)])
        self.assertEqual(turned_lefts(order), [left for left in known if is_last_won(order, left) != (plain.worth(order, left) > 0)])

    def test_all_small_orders(self):
        for order in plain.small_orders() + plain.some_orders()[::2]:
            self.check(order)
            for left in plain.lefts(order)[::1 if order[0] < 5 else -5]:
                self.assertIs(last_won(order, left), is_last_won(order, left))
                self.assertEqual(last_bites(order, left), bites_told(order, left))

    def test_in_every_guise(self):
        for order in FEW:
            known = plain.lefts(order)
            self.gives(last_lost_lefts, (order,), [left for left in known if not is_last_won(order, left)])
            self.gives(turned_lefts, (order,), [left for left in known if is_last_won(order, left) != (plain.worth(order, left) > 0)])
            for left in known:
                self.gives(last_won, (order, left), is_last_won(order, left))
                self.gives(last_bites, (order, left), bites_told(order, left))

    def test_a_piece_under_all_others_is_poisoned(self):
        for order in plain.small_orders(4):
            stacked = plain.stacked(ONE, order)
            self.gives(without_least, (stacked,), order)
            for left in plain.lefts(order):
                whole = (0,) + tuple(piece + 1 for piece in left)
                self.assertIs(last_won(stacked, whole), plain.worth(order, left) > 0)

    def test_with_a_piece_above_all_others_who_begins_wins(self):
        for order in plain.small_orders(4)[1:] + plain.some_orders()[:5]:
            stacked = plain.stacked(order, ONE)
            self.assertIs(last_won(stacked, plain.whole(stacked)), True)

    def test_chains_beside_one_another(self):
        for sizes in itertools.product(range(1, 5), repeat=3):
            for chains in (sizes, sizes[:2], sizes[:1], (1,) * sizes[0]):
                order = plain.side_by_side(*[plain.chain(size) for size in chains])
                nim = functools.reduce(lambda one, two: one ^ two, chains)
                told = nim != 0 if max(chains) > 1 else len(chains) % 2 == 0
                self.assertIs(last_won(order, plain.whole(order)), told)

    def test_one_piece_and_none(self):
        self.gives(last_won, (EMPTY, ()), True)
        self.gives(last_won, (ONE, (0,)), False)
        self.gives(last_bites, (ONE, (0,)), ())
        self.gives(last_bites, (EMPTY, ()), ())
        self.gives(last_lost_lefts, (EMPTY,), [])
        self.gives(turned_lefts, (EMPTY,), [()])
        self.gives(last_lost_lefts, (ONE,), [(0,)])
        self.gives(turned_lefts, (ONE,), [(), (0,)])


class Answers(Case):

    def test_all_sets_of_pairs_of_small_orders(self):
        for order in plain.small_orders(3):
            for left in plain.lefts(order):
                known = [pairs for pairs in plain.all_replies(order) if are_last_answers(order, left, pairs)]
                self.assertIs(bool(known), not is_last_won(order, left))
                for pairs in plain.all_replies(order):
                    self.assertIs(is_last_answers(order, left, pairs), pairs in known)
                self.check(order, left)

    def check(self, order, left):
        """last_answers and last_paper give what they should."""
        if is_last_won(order, left):
            self.assertEqual(ended(last_answers, (order, left)), "raises CanNot()")
        else:
            told = last_answers(order, left)
            self.assertTrue(are_last_answers(order, left, told))
            self.assertEqual(told, tuple(sorted(told)))
            self.assertIs(is_last_answers(order, left, told), True)
        if left == () or not is_last_won(order, left):
            self.assertEqual(ended(last_paper, (order, left)), "raises CanNot()")
        else:
            piece, pairs = last_paper(order, left)
            self.assertTrue(are_last_answers(order, plain.bitten(order, left, piece), pairs))
            self.assertIs(is_last_paper(order, left, (piece, pairs)), True)

    def test_greater_orders(self):
        for order in list(plain.all_orders(4)) + list(plain.all_orders(5))[::3] + plain.some_orders()[:6]:
            for left in plain.lefts(order)[::-4]:
                self.check(order, left)

    def test_some_sets_of_pairs(self):
        rng = random.Random(24)
        for order in list(plain.all_orders(4)) + list(plain.all_orders(5))[::15]:
            most = most_pairs(order)
            for left in plain.lefts(order)[::-3]:
                less = tuple(pair for pair in most if rng.randrange(12))
                for pairs in (most, less, some_pairs(order, rng), ()):
                    self.assertIs(is_last_answers(order, left, pairs), are_last_answers(order, left, pairs))
                    for piece in left:
                        behind = plain.bitten(order, left, piece)
                        self.assertIs(is_last_paper(order, left, (piece, pairs)), are_last_answers(order, behind, pairs))
                self.assertIs(is_last_answers(order, left, most), not is_last_won(order, left))

    def test_others_may_be_named_too(self):
        self.gives(is_last_answers, (STREWN, (0,), BOTH), True)
        self.gives(is_last_answers, (STREWN, (0,), BOTH[:1]), True)
        self.gives(is_last_answers, (EN, (0,), (((0, 1), 1), ((0, 1, 2), 1))), True)
        # What is named must be answered well, though it is not come to from the LEFT.
        self.gives(is_last_answers, (STREWN, (0,), (((1,), 1),)), False)
        self.gives(is_last_answers, (STREWN, (0,), ((EVERY, 1),)), False)
        self.gives(is_last_answers, (STREWN, EVERY, BOTH + (((2,), 2),)), False)

    def test_in_every_guise(self):
        for order in FEW:
            for left in plain.lefts(order):
                if is_last_won(order, left):
                    self.refuses(last_answers, (order, left), "CanNot()")
                else:
                    self.gives(last_answers, (order, left), last_answers(order, left))
                    self.gives(is_last_answers, (order, left, last_answers(order, left)), True)
                if left and is_last_won(order, left):
                    self.gives(last_paper, (order, left), last_paper(order, left))
                    self.gives(is_last_paper, (order, left, last_paper(order, left)), True)
                else:
                    self.refuses(last_paper, (order, left), "CanNot()")
                    self.gives(is_last_paper, (order, left, (0, ())), False)

    def test_whatever_thing_is(self):
        for bad in NO_PAIRS:
            for left in plain.lefts(STREWN):
                self.assertIs(is_last_answers(STREWN, left, bad), False)
                self.assertIs(is_last_paper(STREWN, left, (0, bad)), False)
                self.assertIs(is_last_paper(STREWN, left, bad), False)
        for thing in things():
            told = repr(thing)
            self.gives(is_last_answers, (ONE, (0,), thing), told == "()")
            self.gives(is_last_answers, (STREWN, (), thing), False)
            self.gives(is_last_answers, (STREWN, EVERY, thing), False)
            self.gives(is_last_answers, (STREWN, EVERY, BOTH[:2] + (((1, 2), thing),)), told in ("1", "2"))
            self.gives(is_last_answers, (STREWN, EVERY, ((thing, 1),) + BOTH[1:]), told == "(0, 1)")
            self.gives(is_last_paper, (TWO, (0, 1), thing), told == "(0, ())")
            self.gives(is_last_paper, (TWO, (0, 1), (thing, ())), told in ("0", "1"))
            self.gives(is_last_paper, (TWO, (0, 1), (1, thing)), told == "()")
            self.gives(is_last_paper, (TWO, (0, 1), (1, (), thing)), False)
            self.unfit(is_last_answers, (2, ((1, 0),)), (), thing)
            self.unfit(is_last_paper, EN, (2,), thing)
        for bad in ((False, ()), ("0", ()), (0.0, ()), (None, ()), (2, ()), (-1, ()), ((0,), ()), [0, ()], (0, []), (0,), (0, (), ())):
            self.gives(is_last_paper, (TWO, (0, 1), bad), False)

    def test_who_goes_by_them_never_takes_the_last_piece(self):
        for order in plain.small_orders(4) + plain.some_orders()[:2]:
            for left in plain.lefts(order)[::-2]:
                if not is_last_won(order, left):
                    self.play(order, left, dict(last_answers(order, left)))

    def play(self, order, left, named):
        """Whatever the other one bites, it takes the last piece, or there is an answer that does not."""
        self.assertTrue(left)
        for piece in left:
            behind = plain.bitten(order, left, piece)
            if behind:
                self.play(order, plain.bitten(order, behind, named[behind]), named)


class WithoutLeast(Case):

    def test_all_small_orders(self):
        for order in plain.small_orders():
            every = plain.whole(order)
            lowest = [piece for piece in every if all((piece, one) in plain.pairs_of(order) for one in every if one != piece)]
            told = repr(plain.part(order, every[1:])) if lowest else "raises CanNot()"
            self.in_every_guise(without_least, (order,), told)

    def test_one_piece_and_none(self):
        self.gives(without_least, (ONE,), EMPTY)
        self.refuses(without_least, (EMPTY,), "CanNot()")

    def test_many_lefts(self):
        for order in ((59, ()), plain.ELEVEN, plain.NOT_FEW):
            self.gives(without_least, (plain.stacked(ONE, order),), order)
            self.refuses(without_least, (order,), "CanNot()")
        self.gives(without_least, (plain.STALK,), plain.chain(59))


class Bounds(Case):

    def test_just_two_thousand_lefts(self):
        order, every = plain.JUST_FEW, plain.whole(plain.JUST_FEW)
        # CHAINS of 4, 4, 4 and of 1, 1, 1, 1: won as in the plain play, by the same BITES.
        self.gives(last_won, (order, every), True)
        self.gives(last_bites, (order, every), (0, 4, 8))
        paper = last_paper(order, every)
        self.gives(is_last_paper, (order, every, paper), True)
        behind = tuple(piece for piece in every if piece not in range(paper[0], paper[0] + 4))
        self.assertIs(is_last_answers(order, behind, paper[1]), True)
        self.assertIs(is_last_answers(order, behind, paper[1][1:]), False)
        self.assertIs(is_last_answers(order, every, paper[1]), False)
        self.assertEqual(last_answers(order, behind), paper[1])
        # Only where no CHAIN has two pieces left.
        self.assertEqual(len(turned_lefts(order)), 2 ** 7)
        self.assertEqual(len(last_lost_lefts(order)), len([left for left in plain.lefts(order) if not is_last_won(order, left)]))

    def test_more_lefts(self):
        for order in plain.MANY_LEFTS:
            every = plain.whole(order)
            for function in BY_ORDER:
                self.refuses(function, (order,), "TooMany()")
            for left in ((), (0,), every):
                for function in BY_LEFT:
                    self.refuses(function, (order, left), "TooMany()")
            self.gives(is_last_answers, (order, (0,), ()), True)
            self.gives(is_last_answers, (order, (), ()), False)
            self.gives(is_last_answers, (order, every, ()), False)
            self.gives(is_last_paper, (order, every, (0, ())), False)
        for order in (plain.ELEVEN, plain.STREWN):
            self.gives(is_last_paper, (order, (3, 5), (3, ())), True)
            self.gives(is_last_answers, (order, EVERY, BOTH), True)
            self.gives(is_last_paper, (order, (0, 1, 2, 3), (3, BOTH)), True)
            self.gives(is_last_paper, (order, (0, 1, 2, 3), (3, BOTH[1:])), False)

    def test_sixty_pieces(self):
        stalk, every = plain.STALK, tuple(range(60))
        self.gives(last_bites, (stalk, every), (1,))
        self.gives(last_paper, (stalk, every), (1, ()))
        self.gives(last_lost_lefts, (stalk,), [(0,)])
        self.gives(turned_lefts, (stalk,), [(), (0,)])
        both = plain.side_by_side(plain.chain(30), plain.chain(30))
        told = last_answers(both, every)
        self.assertIs(is_last_answers(both, every, told), True)
        self.assertIs(is_last_answers(both, every, told[:-1]), False)


class Refused(Case):

    def test_what_is_no_order(self):
        for bad in BAD_ORDERS + NO_END:
            for function in BY_ORDER + (without_least,):
                self.unfit(function, bad)
            for left in ((), (1,), None):
                for function in BY_LEFT:
                    self.unfit(function, bad, left)
                for thing in ((), None, (0, ())):
                    self.unfit(is_last_answers, bad, left, thing)
                    self.unfit(is_last_paper, bad, left, thing)

    def test_what_is_no_left(self):
        for bad in NO_LEFTS:
            for left in (bad, lists(bad)):
                self.with_left(EN, left)
                self.with_left(plain.stacked(EN, plain.ELEVEN), left)

    def with_left(self, order, left):
        for function in BY_LEFT:
            self.unfit(function, order, left)
        for thing in ((), None, (0, ())):
            self.unfit(is_last_answers, order, left, thing)
            self.unfit(is_last_paper, order, left, thing)

    def test_unfit_comes_ahead_of_too_many_and_cannot(self):
        for order in plain.MANY_LEFTS:
            for bad in ((order[0],), (1, 0), None):
                self.with_left(order, bad)
        for bad in ((1,), (0, 3), (1, 2)):
            self.unfit(last_answers, SLAB, bad)
            self.unfit(last_paper, SLAB, bad)


if __name__ == "__main__":
    unittest.main()
