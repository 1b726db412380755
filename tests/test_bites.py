"""[7]: lefts and bites."""

import itertools
import unittest

from eatenorders import bites
from eatenorders.bites import after_bites, bite_at, bites_between, bitten, fewest_bites, first_flaw, how_many_lefts
from eatenorders.bites import is_left, is_play, left_at, left_behind, left_number, lefts
from tests import plain
from tests.checks import BAD_ORDERS, NO_END, NO_NUMBERS, Case, ended, lists, things

EXAMPLES = r"""
    >>> vee, claw = (3, ((0, 1), (0, 2))), (4, ((0, 1), (0, 2), (0, 3)))
    >>> is_left(vee, (0, 2)), is_left(vee, (1,)), is_left(vee, ()), is_left(vee, [0]), lefts(vee), how_many_lefts(claw)
    (True, False, True, False, [(), (0,), (0, 1), (0, 1, 2), (0, 2)], 9)
    >>> bite_at(vee, (0, 1, 2), 0), bite_at(vee, (0, 2), 2), bitten(vee, (0, 1, 2), 1), after_bites(vee, (0, 1, 2))
    ((0, 1, 2), (2,), (0, 2), [(), (0, 1), (0, 2)])
    >>> is_play(vee, (1, 2, 0)), is_play(vee, (0, 1)), left_behind(claw, (3, 1)), left_behind(claw, ()), first_flaw(vee, (1, 0, 2)), first_flaw(vee, (2, 1))
    (True, False, (0, 2), (0, 1, 2, 3), 2, None)
    >>> left_number(vee, (0, 1, 2)), left_at(vee, 4), left_at((0, ()), 0)
    (3, (0, 2), ())
    >>> fewest_bites(claw, (0, 1, 2, 3), ()), fewest_bites(claw, (0, 1, 2, 3), (0, 2)), fewest_bites(vee, (0, 1), (0, 1))
    (1, 2, 0)
    >>> left_behind(claw, bites_between(claw, (0, 1, 2, 3), (), 3)), len(bites_between(claw, (0, 1, 2, 3), (0,), 3)), bites_between(vee, (0,), (), 1)
    ((), 3, (0,))
    >>> fewest_bites(vee, (0, 1), (0, 2))
    raises CanNot()
    >>> left_at(vee, 5)
    raises CanNot()
    >>> bitten(vee, (0, 2), 1)
    raises NoPiece(piece=1)
    >>> left_behind(vee, (0, 1))
    raises Unfit()
    >>> lefts((11, ()))
    raises TooMany()
"""

EMPTY, VEE, CLAW = (0, ()), (3, ((0, 1), (0, 2))), (4, ((0, 1), (0, 2), (0, 3)))
ENN, SOLID = (4, ((0, 2), (1, 2), (1, 3))), (0, 1, 2)
FEW = [EMPTY, (1, ()), (2, ()), VEE, CLAW, ENN, (4, ((0, 1), (0, 2), (1, 3), (2, 3))), *plain.random_orders(71, 3, 6, 30)]
STALK, STREWN = plain.STALK, plain.STREWN
SIXTY = tuple(range(60))
BY_ORDER = (lefts, how_many_lefts)

# No LEFTS of VEE: no sets, no pieces, or something under what is there is gone.
BAD_LEFTS = (None, "", "0", "012", 0, 1, True, {}, {0}, {0: 1}, 1.5, (0, 0), (1, 0), (0, 2, 1), (3,), (0, 3), (-1,), (-3, 0),
             (0, 1, 2, 3), (True,), (False,), (0, True), (0, "1"), (0, None), (0, 1.0), ((0,),), (0, (1,)), ((),),
             (1,), (2,), (1, 2), "(0,)", (None,))


def sets_below(many):
    return [own for size in range(many + 1) for own in itertools.combinations(range(many), size)]


def led_through(order, left, pieces):
    """The LEFT behind BITES at pieces, None if one of them is gone already."""
    for piece in pieces:
        if piece not in left:
            return None
        left = plain.bitten(order, left, piece)
    return left


class Examples(Case):

    def test_examples(self):
        self.examples(EXAMPLES, dict(vars(bites)))


class Lefts(Case):

    def test_is_left(self):
        for order in plain.small_orders() + plain.some_orders()[:6]:
            known = plain.lefts(order)
            for pieces in sets_below(order[0]):
                self.assertIs(is_left(order, pieces), pieces in known)

    def test_is_left_whatever_thing_is(self):
        for bad in BAD_LEFTS:
            self.gives(is_left, (VEE, bad), False)
        for thing in things():
            self.gives(is_left, (VEE, thing), isinstance(thing, tuple) and repr(thing) in ("()", "(0,)", "(0, 1)"))
            self.gives(is_left, (EMPTY, thing), isinstance(thing, tuple) and thing == ())
        for own in plain.lefts(ENN):
            self.gives(is_left, (ENN, own), True)
            self.gives(is_left, (ENN, list(own)), False)
            self.gives(is_left, (ENN, own[::-1]), len(own) < 2)

    def test_lefts(self):
        for order in plain.small_orders() + plain.some_orders():
            self.assertEqual(lefts(order), list(plain.lefts(order)))
            self.assertEqual(how_many_lefts(order), len(plain.lefts(order)))

    def test_in_every_guise(self):
        for order in FEW:
            known = list(plain.lefts(order))
            self.gives(lefts, (order,), known)
            self.gives(how_many_lefts, (order,), len(known))
            for number, left in enumerate(known):
                self.gives(left_number, (order, left), number)
                self.gives(left_at, (order, number), left)

    def test_chains_and_loose_pieces(self):
        for many in (0, 1, 2, 5, 59, 60):
            self.gives(lefts, (plain.chain(many),), [tuple(range(size)) for size in range(many + 1)])
            self.gives(how_many_lefts, (plain.chain(many),), many + 1)
        for many in range(11):
            self.gives(how_many_lefts, ((many, ()),), 2 ** many)
        self.gives(lefts, ((10, ()),), sorted(sets_below(10)))

    def test_side_by_side_and_stacked(self):
        for order, other in itertools.product(plain.small_orders(3) + [ENN, CLAW], repeat=2):
            one, more = how_many_lefts(order), how_many_lefts(other)
            self.assertEqual(how_many_lefts(plain.side_by_side(order, other)), one * more)
            self.assertEqual(how_many_lefts(plain.stacked(order, other)), one + more - 1)

    def test_just_two_thousand_and_one_more(self):
        known = lefts(plain.JUST_FEW)
        self.assertEqual((len(known), how_many_lefts(plain.JUST_FEW)), (2000, 2000))
        self.assertEqual(known, sorted(set(known)))
        self.gives(left_at, (plain.JUST_FEW, 1999), known[1999])
        self.gives(left_number, (plain.JUST_FEW, known[1999]), 1999)
        self.refuses(left_at, (plain.JUST_FEW, 2000), "CanNot()")
        self.assertEqual(how_many_lefts(plain.chain(1999)), 2000)
        self.refuses(how_many_lefts, (plain.chain(2000),), "TooMany()")

    def test_too_many(self):
        for order in plain.MANY_LEFTS:
            for function in BY_ORDER:
                self.refuses(function, (order,), "TooMany()")
            for left in ((), (0,)):
                self.refuses(left_number, (order, left), "TooMany()")
            for number in (0, 1, -1, 2000, 2001, 10 ** 6):
                self.refuses(left_at, (order, number), "TooMany()")

    def test_too_many_comes_behind_unfit(self):
        for order in plain.MANY_LEFTS:
            for bad in NO_NUMBERS:
                self.unfit(left_at, order, bad)
            for bad in ((1, 0), (60,), (True,), None, "0"):
                self.unfit(left_number, order, bad)

    def test_the_others_never_are_too_many(self):
        for order in plain.MANY_LEFTS:
            every = tuple(range(order[0]))
            behind = led_through(order, every, (0,))
            self.assertIs(is_left(order, every), True)
            self.assertEqual(bitten(order, every, 0), behind)
            self.assertEqual(bite_at(order, every, 0), tuple(own for own in every if own not in behind))
            self.assertEqual(len(after_bites(order, every)), order[0])
            self.assertEqual(left_behind(order, (0,)), behind)
            self.assertEqual(fewest_bites(order, every, behind), 1)
            self.assertEqual(bites_between(order, every, behind, 1), (0,))
            self.assertIsNone(first_flaw(order, (0,)))

    def test_numbers_that_tell_no_left(self):
        for order in FEW:
            many = len(plain.lefts(order))
            for number in (many, many + 1, -1, -many, 10 ** 6, -10 ** 6):
                self.refuses(left_at, (order, number), "CanNot()")


class Bites(Case):

    def test_all_bites_of_all_lefts(self):
        for order in plain.small_orders() + plain.some_orders():
            for left in plain.lefts(order):
                behind = [plain.bitten(order, left, piece) for piece in left]
                self.assertEqual(after_bites(order, left), sorted(behind))
                self.assertEqual(len(set(behind)), len(left))
                for piece, other in zip(left, behind):
                    self.assertEqual(bitten(order, left, piece), other)
                    self.assertEqual(bite_at(order, left, piece), tuple(own for own in left if own not in other))

    def test_in_every_guise(self):
        for order in FEW:
            for left in plain.lefts(order)[::2]:
                self.gives(after_bites, (order, left), sorted(plain.bitten(order, left, piece) for piece in left))
                for piece in left:
                    behind = plain.bitten(order, left, piece)
                    self.gives(bitten, (order, left, piece), behind)
                    self.gives(bite_at, (order, left, piece), tuple(own for own in left if own not in behind))

    def test_of_sixty(self):
        self.gives(bite_at, (STALK, SIXTY, 0), SIXTY)
        self.gives(bitten, (STALK, SIXTY, 20), SIXTY[:20])
        self.gives(after_bites, (STALK, SIXTY), [SIXTY[:size] for size in range(60)])
        self.gives(bite_at, (STREWN, SIXTY, 30), (30,))
        self.gives(bitten, (STREWN, SIXTY, 30), SIXTY[:30] + SIXTY[31:])
        self.gives(after_bites, (STREWN, SIXTY), sorted(SIXTY[:own] + SIXTY[own + 1:] for own in SIXTY))
        self.gives(after_bites, (STALK, ()), [])

    def test_a_piece_that_is_none_of_left(self):
        for order in FEW:
            for left in plain.lefts(order):
                for piece in range(-2, order[0] + 2):
                    if piece not in left:
                        self.refuses(bite_at, (order, left, piece), f"NoPiece(piece={piece})")
                        self.refuses(bitten, (order, left, piece), f"NoPiece(piece={piece})")
        for piece in (-1, 60, 10 ** 6, -10 ** 6):
            self.refuses(bite_at, (STREWN, SIXTY, piece), f"NoPiece(piece={piece})")


class Plays(Case):

    def test_all_rows_of_pieces(self):
        for order in plain.small_orders(4):
            known = plain.all_plays(order)
            for size in range(5):
                for row in itertools.product(range(order[0]), repeat=size):
                    flaw = plain.flaw(order, row)
                    self.assertEqual(first_flaw(order, row), flaw)
                    self.assertIs(is_play(order, row), flaw is None)
                    self.assertIs(is_play(order, row), row in known)
                    if flaw is None:
                        self.assertEqual(left_behind(order, row), led_through(order, plain.whole(order), row))
                    else:
                        self.unfit(left_behind, order, row)

    def test_all_plays_of_greater_ones(self):
        for order in list(plain.all_orders(5))[::9] + FEW:
            for play in plain.all_plays(order)[::7]:
                self.assertIs(is_play(order, play), True)
                self.assertEqual(left_behind(order, play), led_through(order, plain.whole(order), play))
                self.assertIsNone(first_flaw(order, play))

    def test_in_every_guise(self):
        self.gives(left_behind, (CLAW, ()), (0, 1, 2, 3))
        self.gives(left_behind, (CLAW, (3, 1)), (0, 2))
        self.gives(left_behind, (EMPTY, ()), ())
        self.gives(left_behind, (STALK, SIXTY[::-1]), ())
        self.gives(left_behind, (STREWN, SIXTY[::2]), SIXTY[1::2])
        self.gives(first_flaw, (CLAW, (3, 3)), 1)
        self.gives(first_flaw, (CLAW, (1, 2, 0, 3, 1)), 3)
        self.gives(first_flaw, (CLAW, ()), None)
        self.gives(first_flaw, (CLAW, (1, 2, 3, 0)), None)
        self.gives(first_flaw, (STALK, (59, 58, 30, 31)), 3)
        self.gives(first_flaw, (STREWN, SIXTY + SIXTY), 60)
        self.gives(is_play, (STALK, SIXTY[::-1]), True)
        self.gives(is_play, (STALK, SIXTY), False)

    def test_is_play_whatever_thing_is(self):
        for thing in things():
            told = repr(thing) if isinstance(thing, tuple) else ""
            self.gives(is_play, ((2, ()), thing), told in ("()", "(0,)", "(0, 1)", "(1, 0)"))
            self.gives(is_play, (EMPTY, thing), told == "()")
        for bad in ([], [1], (True,), (1, False), (1, 1), (1, 3), (-1,), ("1",), ((1,),), (None,), None, 0, "", "1", {}):
            self.gives(is_play, (VEE, bad), False)

    def test_refused(self):
        for bad in (None, "", "0", 0, True, {}, {0}, 1.5, (3,), (0, 3), (-1,), (True,), (0, False), ("0",), (None,), ((0,),),
                    ((),), (1.0,)):
            self.unfit(first_flaw, VEE, bad)
            self.unfit(left_behind, VEE, bad)
        for bad in ((0, 0), (0, 1), (2, 2), (1, 0, 2)):
            self.unfit(left_behind, VEE, bad)
        for bad in NO_END:
            self.unfit(first_flaw, VEE, bad)
            self.unfit(left_behind, VEE, bad)
            self.assertIs(is_play(VEE, bad), False)
            self.assertIs(is_left(VEE, bad), False)
        self.unfit(left_behind, EMPTY, (0,))
        self.unfit(first_flaw, EMPTY, (0,))


class Between(Case):

    def test_every_number_of_bites_between_all_lefts(self):
        for order in plain.small_orders(4) + list(plain.all_orders(5))[::6] + FEW:
            for left in plain.lefts(order):
                ways = plain.ways_down(order, left)
                for other in plain.lefts(order):
                    self.check(order, left, other, ways.get(other, ()))

    def check(self, order, left, other, counts):
        self.assertIs(bool(counts), set(other) <= set(left))
        if counts:
            self.assertEqual(fewest_bites(order, left, other), min(counts))
            self.assertEqual(set(counts), set(range(min(counts), len(left) - len(other) + 1)))
        else:
            self.assertEqual(ended(fewest_bites, (order, left, other)), "raises CanNot()")
        for number in range(-1, len(left) + 2):
            if number in counts:
                told = bites_between(order, left, other, number)
                self.assertIsInstance(told, tuple)
                self.assertEqual((len(told), led_through(order, left, told)), (number, other))
            else:
                self.assertEqual(ended(bites_between, (order, left, other, number)), "raises CanNot()")

    def test_in_every_guise(self):
        self.gives(fewest_bites, (CLAW, (0, 1, 2, 3), (0,)), 3)
        self.gives(fewest_bites, (CLAW, (0, 1, 2, 3), ()), 1)
        self.gives(fewest_bites, (EMPTY, (), ()), 0)
        self.gives(fewest_bites, (STALK, SIXTY, SIXTY[:7]), 1)
        self.gives(fewest_bites, (STREWN, SIXTY, SIXTY[:7]), 53)
        self.gives(bites_between, (VEE, SOLID, SOLID, 0), ())
        self.gives(bites_between, (EMPTY, (), (), 0), ())
        self.gives(bites_between, (VEE, (0,), (), 1), (0,))
        for number in (1, 2, 30, 60):
            told = bites_between(STALK, SIXTY, (), number)
            self.assertEqual((len(told), left_behind(STALK, told)), (number, ()))
            self.gives(bites_between, (STALK, SIXTY, (), number), told)
        self.refuses(bites_between, (STALK, SIXTY, (), 0), "CanNot()")
        self.refuses(bites_between, (STALK, SIXTY, (), 61), "CanNot()")
        self.refuses(bites_between, (STREWN, SIXTY, (0,), 58), "CanNot()")
        self.refuses(bites_between, (VEE, SOLID, SOLID, 1), "CanNot()")
        self.refuses(bites_between, (VEE, SOLID, (), -1), "CanNot()")
        self.refuses(fewest_bites, (VEE, (), (0,)), "CanNot()")
        self.refuses(bites_between, (VEE, (0, 1), (0, 2), 1), "CanNot()")


class Refused(Case):

    def test_what_is_no_order(self):
        for bad in BAD_ORDERS:
            for function in BY_ORDER:
                self.unfit(function, bad)
            for function in (is_left, is_play, after_bites, left_behind, first_flaw, left_number):
                self.unfit(function, bad, ())
                self.unfit(function, bad, None)
            for function in (bite_at, bitten):
                self.unfit(function, bad, (), 0)
            self.unfit(left_at, bad, 0)
            self.unfit(left_at, bad, -1)
            self.unfit(fewest_bites, bad, (), (0,))
            self.unfit(bites_between, bad, (), (0,), 0)

    def test_what_is_no_left(self):
        for bad in BAD_LEFTS + NO_END:
            for own in (bad, lists(bad)):
                self.unfit(after_bites, VEE, own)
                self.unfit(left_number, VEE, own)
                self.unfit(bite_at, VEE, own, 0)
                self.unfit(bitten, VEE, own, 7)
                self.unfit(fewest_bites, VEE, own, SOLID)
                self.unfit(fewest_bites, VEE, (), own)
                self.unfit(bites_between, VEE, own, SOLID, 0)
                self.unfit(bites_between, VEE, (), own, 0)
                self.unfit(bites_between, VEE, own, own, 99)

    def test_what_is_no_number(self):
        for bad in NO_NUMBERS + NO_END:
            self.unfit(bite_at, VEE, SOLID, bad)
            self.unfit(bitten, VEE, SOLID, bad)
            self.unfit(bitten, VEE, (), bad)
            self.unfit(left_at, VEE, bad)
            self.unfit(bites_between, VEE, SOLID, (), bad)
            self.unfit(bites_between, VEE, (), SOLID, bad)


if __name__ == "__main__":
    unittest.main()
