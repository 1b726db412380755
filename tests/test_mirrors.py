"""[21]: mirrors, tops and bottoms."""

import itertools
import unittest

from eatenorders import mirrors as own
from eatenorders.alike import automorphisms
from eatenorders.mirrors import best_mirror, bottom, fewest_stay, is_best_mirror, is_even, is_mirror, mirror_left
from eatenorders.mirrors import mirror_reply, mirrors, moved_pairs, staying_order, stays, top, worth_by_bottom
from eatenorders.mirrors import worth_by_mirror
from tests import plain
from tests.checks import BAD_ORDERS, NO_END, NO_NUMBERS, Case, ended, lists, things

EXAMPLES = r"""
    >>> fork, rails, house = (3, ((0, 1), (0, 2))), (4, ((0, 1), (2, 3))), (5, ((0, 1), (0, 2), (1, 3), (1, 4), (2, 3), (2, 4)))
    >>> mirrors(fork), mirrors(rails), len(mirrors(house)), [is_mirror(rails, own) for own in ((2, 3, 0, 1), (2, 1, 0, 3), [0, 1, 2, 3], (0, 3, 2, 1))]
    ([(0, 1, 2), (0, 2, 1)], [(0, 1, 2, 3), (2, 3, 0, 1)], 3, [True, False, False, False])
    >>> stays(fork, (0, 2, 1)), moved_pairs(house, (0, 2, 1, 4, 3)), staying_order(house, (0, 1, 2, 4, 3)), worth_by_mirror(fork, (0, 2, 1)), worth_by_mirror(rails, (2, 3, 0, 1))
    ((0,), ((1, 2), (3, 4)), (3, ((0, 1), (0, 2))), 1, 0)
    >>> is_even(rails, (2, 3, 0, 1), (0, 2)), is_even(rails, (2, 3, 0, 1), (0, 1)), mirror_reply(rails, (2, 3, 0, 1), (0, 1, 2, 3), 1), mirror_left(rails, (2, 3, 0, 1), (0, 1, 2, 3), 1)
    (True, False, 3, (0, 2))
    >>> fewest_stay(house), best_mirror(rails), is_best_mirror(house, (0, 1, 2, 4, 3)), top((3, ((0, 2), (1, 2)))), bottom(house), worth_by_bottom(house)
    (1, (2, 3, 0, 1), False, 2, 0, 1)
    >>> mirror_reply(fork, (0, 2, 1), (0, 1, 2), 0)
    raises CanNot()
    >>> mirror_left(rails, (2, 3, 0, 1), (0, 1), 0)
    raises Unfit()
    >>> top(rails)
    raises CanNot()
"""

EMPTY, ONE, FORK, RAILS, SLAB = (0, ()), (1, ()), (3, ((0, 1), (0, 2))), (4, ((0, 1), (2, 3))), (4, ((0, 1), (0, 2), (1, 3), (2, 3)))
HOUSE, EN = (5, ((0, 1), (0, 2), (1, 3), (1, 4), (2, 3), (2, 4))), plain.ENN
FEW = [EMPTY, ONE, (2, ()), (3, ()), FORK, RAILS, SLAB, HOUSE, EN, plain.chain(3), (4, ((0, 1), (0, 2), (0, 3)))]

# Ten MIRRORS of four pieces, of four CHAINS of two, of three; two of two of four.
JUST = plain.side_by_side(*[plain.chain(many) for many in (1, 1, 1, 1, 2, 2, 2, 2, 3, 3, 3, 3, 4, 4)])
# Twice as many, and 2,620.
MORE = (plain.side_by_side(JUST, plain.chain(4)), (9, ()), plain.STREWN, plain.stacked((1, ()), plain.STREWN))

# 60 pieces, and far more LEFTS than can be gone through.
RAILS60 = plain.side_by_side(*[plain.chain(5)] * 12)
SWAP60 = tuple((piece + 30) % 60 for piece in range(60))
CROWN60 = plain.crown(30)

BY_ORDER = (mirrors, fewest_stay, best_mirror, top, bottom, worth_by_bottom)
BY_MIRROR = (stays, moved_pairs, staying_order, worth_by_mirror)

# No MIRRORS of RAILS.
NO_MIRRORS = (None, True, 0, "", "0123", {}, {0}, 1.5, (), (0, 1, 2), (0, 1, 2, 3, 4), (0, 1, 2, 2), (0, 0, 2, 2), (1, 0, 3, 2), (2, 1, 0, 3),
              (0, 3, 2, 1), (2, 3, 1, 0), (3, 2, 1, 0), (2, 3, 0, 4), (2, 3, 0, -1), (2, 3, False, True), (0, 1, 2, 3.0),
              (0, 1, 2, "3"), (0, 1, 2, None), ((0,), 1, 2, 3), (2, 3, 0), (0, 2, 1, 3), *NO_END)


def is_mirror_told(order, row):
    """Whether a row of all pieces is a MIRROR, from its words."""
    pairs, places = plain.pairs_of(order), range(order[0])
    if any(((low, high) in pairs) != ((row[low], row[high]) in pairs) for low in places for high in places):
        return False
    return all(row[row[piece]] == piece for piece in places) and all(row[low] == low for low, high in pairs if row[high] == high)


def all_mirrors(order):
    return [row for row in itertools.permutations(range(order[0])) if is_mirror_told(order, row)]


def staying(mirror):
    return tuple(piece for piece, image in enumerate(mirror) if piece == image)


def worth_of(order):
    return plain.worth(order, plain.whole(order))


def told_or_not(found):
    return repr(found[0]) if len(found) == 1 else "raises CanNot()"


class Examples(Case):

    def test_examples(self):
        self.examples(EXAMPLES, dict(vars(own)))


class Mirrors(Case):

    def test_all_small_orders(self):
        for order in plain.small_orders() + plain.random_orders(41, 12, 6, 20) + plain.random_orders(42, 5, 7, 15):
            known = all_mirrors(order)
            self.assertEqual(mirrors(order), known)
            fewest = min(len(staying(mirror)) for mirror in known)
            self.assertEqual(fewest_stay(order), fewest)
            self.assertIn(best_mirror(order), known)
            self.assertEqual(len(staying(best_mirror(order))), fewest)
            self.assertIn(plain.whole(order), known)

    def test_parts_beside_one_another_that_are_unlike(self):
        # Where the two lower pieces change places, no upper one can stay; three beside all these are free.
        under = plain.stacked((2, ()), (4, ()))
        self.assertEqual(len(mirrors(under)), 10 + 3)
        for order, told in ((plain.side_by_side(under, (3, ())), 13 * 4), (plain.side_by_side((3, ()), under, plain.crown(4)), 13 * 4 * 4)):
            found = mirrors(order)
            self.assertEqual((len(found), len(set(found))), (told, told))
            self.assertTrue(all(is_mirror(order, mirror) for mirror in found))

    def test_all_automorphisms_that_are_mirrors(self):
        inner = [plain.chain(2), (2, ()), FORK, (1, ())]
        for order in [plain.blown(own, [one] * own[0]) for own in (RAILS, EN, SLAB, HOUSE) for one in inner]:
            known = [row for row in automorphisms(order) if all(row[row[piece]] == piece for piece in range(order[0]))
                     and all(row[low] == low for low, high in plain.pairs_of(order) if row[high] == high)]
            self.assertEqual(mirrors(order), known)

    def test_is_mirror(self):
        for order in plain.small_orders(4) + list(plain.all_orders(5))[::16] + [(5, ()), HOUSE]:
            fewest = fewest_stay(order)
            for row in itertools.permutations(range(order[0])):
                told = is_mirror_told(order, row)
                self.assertIs(is_mirror(order, row), told)
                self.assertIs(is_best_mirror(order, row), told and len(staying(row)) == fewest)
            for row in itertools.product(range(-1, order[0] + 1), repeat=min(order[0], 3)):
                if len(row) != order[0] or len(set(row)) < len(row):
                    self.assertIs(is_mirror(order, row), False)
                    self.assertIs(is_best_mirror(order, row), False)

    def test_in_every_guise(self):
        for order in FEW:
            known = all_mirrors(order)
            self.gives(mirrors, (order,), known)
            self.gives(fewest_stay, (order,), min(len(staying(mirror)) for mirror in known))
            self.gives(best_mirror, (order,), best_mirror(order))
            for mirror in known:
                self.gives(is_mirror, (order, mirror), True)
                self.gives(is_best_mirror, (order, mirror), len(staying(mirror)) == fewest_stay(order))
                self.gives(is_mirror, (order, list(mirror)), False)
                self.gives(stays, (order, mirror), staying(mirror))
                moved = tuple((piece, image) for piece, image in enumerate(mirror) if piece < image)
                self.gives(moved_pairs, (order, mirror), moved)
                self.gives(staying_order, (order, mirror), plain.part(order, staying(mirror)))
                self.gives(worth_by_mirror, (order, mirror), worth_of(order))

    def test_what_stays_is_a_left(self):
        for order in plain.small_orders():
            for mirror in mirrors(order):
                self.assertIn(stays(order, mirror), plain.lefts(order))
                self.assertEqual(stays(order, mirror), staying(mirror))
                self.assertEqual(len(stays(order, mirror)) + 2 * len(moved_pairs(order, mirror)), order[0])
                self.assertEqual(staying_order(order, mirror), plain.part(order, staying(mirror)))
                self.assertEqual(worth_by_mirror(order, mirror), worth_of(order))

    def test_whatever_thing_is(self):
        for thing in things():
            for function in (is_mirror, is_best_mirror):
                self.gives(function, (EMPTY, thing), repr(thing) == "()")
                self.gives(function, (ONE, thing), repr(thing) == "(0,)")
                self.gives(function, ((2, ()), (1, thing)), repr(thing) == "0")
                self.gives(function, (RAILS, (2, 3, thing, 1)), repr(thing) == "0")
                self.unfit(function, (2, ((1, 0),)), thing)
            self.gives(is_mirror, (plain.STREWN, thing), False)
            self.assertEqual(ended(is_best_mirror, ((9, ()), thing)), "raises TooMany()")
        for bad in NO_MIRRORS:
            self.assertIs(is_mirror(RAILS, bad), False)
            self.assertIs(is_best_mirror(RAILS, bad), False)
        self.gives(is_best_mirror, (RAILS, (0, 1, 2, 3)), False)
        self.gives(is_best_mirror, (RAILS, (2, 3, 0, 1)), True)


class Evens(Case):

    def test_even_lefts(self):
        for order in plain.small_orders():
            for mirror in mirrors(order):
                for left in plain.lefts(order):
                    even = all(mirror[piece] in left for piece in left)
                    self.assertIs(is_even(order, mirror, left), even)
                    if even:
                        stay = tuple(piece for piece in left if mirror[piece] == piece)
                        self.assertEqual(plain.worth(order, left), plain.worth(order, stay))

    def test_replies(self):
        for order in plain.small_orders(4) + list(plain.all_orders(5))[::8] + [(5, ()), HOUSE]:
            for mirror in mirrors(order):
                for left in plain.lefts(order):
                    for piece in range(-1, order[0] + 1):
                        self.check(order, mirror, left, piece)

    def check(self, order, mirror, left, piece):
        args = (order, mirror, left, piece)
        if not all(mirror[one] in left for one in left):
            for function in (mirror_reply, mirror_left):
                self.unfit(function, *args)
        elif piece not in left:
            for function in (mirror_reply, mirror_left):
                with self.assertRaises(LookupError) as caught:
                    function(*args)
                self.assertEqual(caught.exception.piece, piece)
        else:
            behind = plain.bitten(order, left, piece)
            if mirror[piece] != piece:
                self.assertEqual(mirror_reply(*args), mirror[piece])
                self.assertIn(mirror[piece], behind)
                behind = plain.bitten(order, behind, mirror[piece])
            self.assertEqual(mirror_left(*args), behind)
            self.assertTrue(all(mirror[one] in behind for one in behind))

    def test_in_every_guise(self):
        for order, mirror in ((FORK, (0, 2, 1)), (RAILS, (2, 3, 0, 1)), (HOUSE, (0, 2, 1, 4, 3)), (HOUSE, (0, 1, 2, 4, 3))):
            for left in plain.lefts(order):
                even = all(mirror[piece] in left for piece in left)
                self.gives(is_even, (order, mirror, left), even)
                for piece in range(order[0]):
                    self.in_guises(order, mirror, left, piece, even)

    def in_guises(self, order, mirror, left, piece, even):
        args = (order, mirror, left, piece)
        if not even:
            self.refuses(mirror_reply, args, "Unfit()")
            self.refuses(mirror_left, args, "Unfit()")
        elif piece not in left:
            self.refuses(mirror_reply, args, f"NoPiece(piece={piece})")
            self.refuses(mirror_left, args, f"NoPiece(piece={piece})")
        elif mirror[piece] == piece:
            self.refuses(mirror_reply, args, "CanNot()")
            self.gives(mirror_left, args, plain.bitten(order, left, piece))
        else:
            self.gives(mirror_reply, args, mirror[piece])
            self.gives(mirror_left, args, plain.bitten(order, plain.bitten(order, left, piece), mirror[piece]))

    def test_where_all_stay(self):
        for order in FEW:
            every = plain.whole(order)
            self.gives(stays, (order, every), every)
            self.gives(moved_pairs, (order, every), ())
            self.gives(staying_order, (order, every), order)
            self.gives(worth_by_mirror, (order, every), worth_of(order))
            for piece in every:
                self.gives(is_even, (order, every, every), True)
                self.refuses(mirror_reply, (order, every, every, piece), "CanNot()")
                self.gives(mirror_left, (order, every, every, piece), plain.bitten(order, every, piece))


class Ends(Case):

    def test_tops_and_bottoms(self):
        for order in plain.small_orders():
            every = plain.whole(order)
            tops = [piece for piece in every if all((one, piece) in plain.pairs_of(order) for one in every if one != piece)]
            bottoms = [piece for piece in every if all((piece, one) in plain.pairs_of(order) for one in every if one != piece)]
            self.in_every_guise(top, (order,), told_or_not(tops))
            self.in_every_guise(bottom, (order,), told_or_not(bottoms))
            if tops:
                self.assertGreater(worth_of(order), 0)
            if bottoms:
                self.assertEqual(worth_of(plain.part(order, every[1:])) + 1, worth_of(order))
                self.gives(worth_by_bottom, (order,), worth_of(order))
            else:
                self.refuses(worth_by_bottom, (order,), "CanNot()")

    def test_one_piece_and_none(self):
        self.gives(top, (ONE,), 0)
        self.gives(bottom, (ONE,), 0)
        self.gives(worth_by_bottom, (ONE,), 1)
        for function in (top, bottom, worth_by_bottom):
            self.refuses(function, (EMPTY,), "CanNot()")
        self.gives(mirrors, (EMPTY,), [()])
        self.gives(best_mirror, (EMPTY,), ())
        self.gives(fewest_stay, (EMPTY,), 0)
        self.gives(is_even, (EMPTY, (), ()), True)
        self.refuses(mirror_reply, (EMPTY, (), (), 0), "NoPiece(piece=0)")
        self.refuses(mirror_left, (EMPTY, (), (), -1), "NoPiece(piece=-1)")


class Bounds(Case):

    def test_just_two_thousand_mirrors(self):
        found = mirrors(JUST)
        self.assertEqual((len(found), len(set(found)), found), (2000, 2000, sorted(found)))
        self.assertTrue(all(is_mirror(JUST, mirror) for mirror in found))
        self.gives(fewest_stay, (JUST,), 0)
        best = best_mirror(JUST)
        self.gives(is_best_mirror, (JUST, best), True)
        self.gives(is_best_mirror, (JUST, plain.whole(JUST)), False)
        self.gives(worth_by_mirror, (JUST, best), 0)
        for many, told in ((6, 76), (7, 232), (8, 764)):
            self.assertEqual(len(mirrors((many, ()))), told)
            self.assertEqual(fewest_stay((many, ())), many % 2)

    def test_more_mirrors(self):
        for order in MORE:
            for function in (mirrors, fewest_stay, best_mirror):
                self.assertEqual(ended(function, (order,)), "raises TooMany()")
            self.assertEqual(ended(is_best_mirror, (order, plain.whole(order))), "raises TooMany()")
            self.gives(is_mirror, (order, plain.whole(order)), True)
            self.gives(stays, (order, plain.whole(order)), plain.whole(order))
        for function in (mirrors, fewest_stay, best_mirror):
            self.refuses(function, ((9, ()),), "TooMany()")
        for thing in (None, (), tuple(range(9))):
            self.refuses(is_best_mirror, ((9, ()), thing), "TooMany()")

    def test_sixty_pieces(self):
        every = tuple(range(60))
        self.gives(is_mirror, (RAILS60, SWAP60), True)
        self.gives(is_mirror, (RAILS60, SWAP60[1:] + SWAP60[:1]), False)
        self.gives(stays, (RAILS60, SWAP60), ())
        self.gives(moved_pairs, (RAILS60, SWAP60), tuple((piece, piece + 30) for piece in range(30)))
        self.gives(staying_order, (RAILS60, SWAP60), EMPTY)
        self.gives(worth_by_mirror, (RAILS60, SWAP60), 0)
        self.gives(is_even, (RAILS60, SWAP60, every), True)
        self.gives(is_even, (RAILS60, SWAP60, every[:30]), False)
        self.gives(mirror_reply, (RAILS60, SWAP60, every, 7), 37)
        self.gives(mirror_left, (RAILS60, SWAP60, every, 7), every[:7] + every[10:37] + every[40:])
        self.assertEqual(ended(mirrors, (RAILS60,)), "raises TooMany()")
        self.refuses(top, (RAILS60,), "CanNot()")
        self.refuses(bottom, (RAILS60,), "CanNot()")
        self.gives(top, (plain.stacked(RAILS60, ONE),), 60)
        self.gives(bottom, (plain.stacked(ONE, RAILS60),), 0)

    def test_few_mirrors_of_sixty_pieces(self):
        self.assertEqual(mirrors(plain.fence(60)), [tuple(range(60))])
        # The turn by half, and the 15 that turn it about two least pieces that stay; and that of all.
        self.assertEqual(len(mirrors(CROWN60)), 17)
        self.gives(fewest_stay, (CROWN60,), 0)
        self.gives(best_mirror, (CROWN60,), best_mirror(CROWN60))
        self.gives(is_best_mirror, (CROWN60, best_mirror(CROWN60)), True)
        self.assertTrue(all(is_mirror(CROWN60, mirror) for mirror in mirrors(CROWN60)))
        both = plain.side_by_side(plain.fence(30), plain.fence(30))
        self.assertEqual(mirrors(both), [tuple(range(60)), SWAP60])
        self.gives(worth_by_mirror, (both, SWAP60), 0)
        self.assertEqual(mirrors(plain.stacked((57, ()), (3, ())))[1:], [tuple(range(57)) + own for own in
                                                                          ((57, 59, 58), (58, 57, 59), (59, 58, 57))])

    def test_odd_many_that_cannot_all_change_places(self):
        # Each upper piece lies above all lower ones but one: where one stays, all stay.
        for many, told in ((29, 1), (8, 106), (9, 1), (6, 16)):
            ties = tuple((low, many + high) for low in range(many) for high in range(many) if low != high)
            self.assertEqual(len(mirrors((2 * many, ties))), told)
        # An odd many that can stay is none of these.
        self.assertEqual(len(mirrors(plain.side_by_side((12, ties), plain.crown(7)))), 16)

    def test_a_staying_order_with_many_lefts(self):
        for order in (plain.NOT_FEW, plain.ELEVEN, plain.STREWN):
            self.refuses(worth_by_mirror, (order, plain.whole(order)), "TooMany()")
            self.gives(staying_order, (order, plain.whole(order)), order)
            twice = plain.side_by_side(order, ONE, ONE)
            if twice[0] <= 60:
                last = twice[0] - 1
                swap = tuple(range(last - 1)) + (last, last - 1)
                self.refuses(worth_by_mirror, (twice, swap), "TooMany()")
        just = plain.side_by_side(plain.JUST_FEW, plain.chain(20), plain.chain(20))
        swap = tuple(range(16)) + tuple(range(36, 56)) + tuple(range(16, 36))
        self.gives(worth_by_mirror, (just, swap), 4)
        self.gives(staying_order, (just, swap), plain.JUST_FEW)

    def test_a_bottom_under_many_lefts(self):
        self.gives(worth_by_bottom, (plain.stacked(ONE, plain.JUST_FEW),), 5)
        for order in (plain.NOT_FEW, plain.ELEVEN, (59, ())):
            self.refuses(worth_by_bottom, (plain.stacked(ONE, order),), "TooMany()")
        self.gives(worth_by_bottom, (plain.STALK,), 60)
        self.refuses(worth_by_bottom, (plain.STREWN,), "CanNot()")
        self.refuses(worth_by_bottom, (plain.ELEVEN,), "CanNot()")


class Refused(Case):

    def test_what_is_no_order(self):
        for bad in BAD_ORDERS + NO_END:
            for function in BY_ORDER:
                self.unfit(function, bad)
            for mirror in ((), (0,), None):
                for function in BY_MIRROR + (is_mirror, is_best_mirror):
                    self.unfit(function, bad, mirror)
                self.unfit(is_even, bad, mirror, ())
                self.unfit(mirror_reply, bad, mirror, (), 0)
                self.unfit(mirror_left, bad, mirror, None, None)

    def test_what_is_no_mirror(self):
        for bad in NO_MIRRORS:
            for mirror in (bad, lists(bad)):
                self.with_mirror(RAILS, mirror, (0, 1, 2, 3), 0)
                self.with_mirror(RAILS, mirror, None, None)
        for bad in ((1, 0) + tuple(range(2, 60)), tuple(range(59, -1, -1)), tuple(range(59)), SWAP60):
            self.with_mirror(plain.STALK, bad, (), 0)

    def with_mirror(self, order, mirror, left, piece):
        for function in BY_MIRROR:
            self.unfit(function, order, mirror)
        self.unfit(is_even, order, mirror, left)
        self.unfit(mirror_reply, order, mirror, left, piece)
        self.unfit(mirror_left, order, mirror, left, piece)

    def test_what_is_no_left(self):
        for bad in (None, True, 0, "", {}, {0}, 1.5, (1,), (0, 3), (1, 0), (0, 0), (4,), (-1,), (True,), ("0",), (1.0,), ((0,),), *NO_END):
            for left in (bad, lists(bad)):
                for mirror in ((0, 1, 2, 3), (2, 3, 0, 1)):
                    self.unfit(is_even, RAILS, mirror, left)
                    for piece in (0, 9, None):
                        self.unfit(mirror_reply, RAILS, mirror, left, piece)
                        self.unfit(mirror_left, RAILS, mirror, left, piece)

    def test_what_is_no_number(self):
        for bad in NO_NUMBERS + NO_END:
            for left in ((), (0, 2), (0, 1)):
                self.unfit(mirror_reply, RAILS, (2, 3, 0, 1), left, bad)
                self.unfit(mirror_left, RAILS, (2, 3, 0, 1), left, bad)

    def test_unfit_comes_ahead_of_no_piece_and_cannot(self):
        for piece in (-1, 4, 1, 60):
            self.unfit(mirror_reply, RAILS, (2, 3, 0, 1), (0,), piece)
            self.unfit(mirror_left, RAILS, (2, 3, 0, 1), (0,), piece)
        self.unfit(mirror_reply, (3, ()), (1, 0, 2), (0, 2), 2)
        self.refuses(mirror_reply, ((3, ()), (1, 0, 2), (0, 1), 2), "NoPiece(piece=2)")
        self.unfit(worth_by_mirror, plain.STREWN, tuple(range(59)))
        self.unfit(is_best_mirror, (2, ((1, 0),)), None)


if __name__ == "__main__":
    unittest.main()
