"""[14]: the tree of modules, prime parts."""

import functools
import itertools
import unittest

from eatenorders import primes
from eatenorders.primes import is_prime, is_tree, meeting, order_by_tree, prime_less, prime_parts, strong_with, tree_depth
from eatenorders.primes import tree_of, widest_prime
from tests import plain
from tests.checks import BAD_ORDERS, NO_END, NO_NUMBERS, Case, deep, ended, endless, lists, things

EXAMPLES = r"""
    >>> zig = (6, ((0, 3), (1, 3), (1, 4), (2, 4), (2, 5)))
    >>> tree_of(six), tree_of(big)
    (('stack', 0, ('beside', 1, 2), 3, ('beside', 4, 5)), ('prime', (5, ((0, 3), (1, 3), (1, 4), (2, 4))), 0, 1, 2, ('stack', 3, ('beside', 5, 6)), 4))
    >>> tree_of(en), tree_of((1, ())), order_by_tree(("stack", 0, ("beside", 1, 2))), order_by_tree(tree_of(big)) == big
    (('prime', (4, ((0, 2), (1, 2), (1, 3))), 0, 1, 2, 3), 0, (3, ((0, 1), (0, 2))), True)
    >>> [is_tree(own) for own in (0, ("stack", ("beside", 0, 2), 1), ("beside", 1, 0), ("beside", 0, ("beside", 1, 2)), ["beside", 0, 1])]
    [True, False, False, False, False]
    >>> [is_prime(own) for own in (en, six, zig)], prime_parts(big), prime_parts(six)
    ([True, False, True], [((0, 1, 2, 3, 4, 5, 6), (5, ((0, 3), (1, 3), (1, 4), (2, 4))))], [])
    >>> [widest_prime(own) for own in (en, six, big, zig)], [tree_depth(own) for own in (en, six, big, (0, ()), (1, ()))]
    ([4, 0, 5, 6], [2, 3, 4, 0, 1])
    >>> strong_with(big, 5), meeting(big, 5, 6), meeting(big, 5, 0), meeting(six, 4, 1)[0]
    ([(5,), (5, 6), (3, 5, 6), (0, 1, 2, 3, 4, 5, 6)], ('beside', (5, 6)), ('prime', (0, 1, 2, 3, 4, 5, 6)), 'stack')
    >>> prime_less(zig), prime_less(en)
    ((0, 5), ())
    >>> tree_of((0, ()))
    raises CanNot()
    >>> meeting(six, 4, 6)
    raises NoPiece(piece=6)
    >>> order_by_tree(("stack", 1, 0))
    raises Unfit()
"""

EN, EMPTY, ONE, VEE = plain.ENN, (0, ()), (1, ()), (3, ((0, 1), (0, 2)))
SIX = (6, ((0, 1), (0, 2), (1, 3), (2, 3), (3, 4), (3, 5)))
BIG = (7, ((0, 3), (1, 3), (1, 4), (2, 4), (3, 5), (3, 6)))
ZIG = (6, ((0, 3), (1, 3), (1, 4), (2, 4), (2, 5)))
SMALL = plain.small_orders()
SOME = plain.some_orders()[:10] + [SIX, BIG, ZIG, plain.fence(7), plain.fence(8), plain.crown(4),
                                   plain.blown(EN, (VEE, ONE, EN, (2, ()))), plain.stacked(EN, EN), plain.side_by_side(EN, VEE)]
FEW = [ONE, (2, ()), VEE, EN, SIX, BIG, ZIG]

# An N whose first piece is an N again.
INNER = ("prime", EN, ("prime", EN, 0, 1, 2, 3), 4, 5, 6)

BAD_TREES = (1, 2, -1, True, False, None, "", "0", "beside", 0.0, {}, {0}, (), [], (0,), (0, 1), (0, 1, 2), ("beside",), ("stack",),
             ("beside", 0), ("stack", 0), ("beside", 0, 0), ("beside", 0, 2), ("beside", 1, 2), ("beside", 1, 0), ("stack", 1, 0),
             ("beside", 0, True), ("beside", False, 1), ("beside", 0, "1"), ("beside", 0, None), ("beside", 0, 1.0),
             ("beside", 0, (1,)), ("beside", 0, ()), ("Beside", 0, 1), ("under", 0, 1), ("", 0, 1), (None, 0, 1), ((), 0, 1),
             (0, "beside", 1), ("beside", "beside", 0), ("beside", 0, ("beside", 1, 2)), ("stack", 0, ("stack", 1, 2)),
             ("stack", ("stack", 0, 1), 2), ("stack", ("beside", 0, 2), 1), ("stack", 1, ("beside", 0, 2)),
             ("stack", ("beside", 1, 0), 2), ("beside", ("stack", 1, 2), 0), ("stack", 0, ("beside", 1, ("stack", 3, 2))),
             ("beside", 0, ("stack", 1, 2), 4), ("beside", 0, 1, -1), {"stack": 0}, b"stack", (b"stack", 0, 1),
             ("prime",), ("prime", EN), ("prime", 0, 1, 2, 3), ("prime", EN, 0, 1, 2), ("prime", EN, 0, 1, 2, 3, 4),
             ("prime", EN, 0, 1, 3, 2), ("prime", EN, 1, 0, 2, 3), ("prime", EN, 0, 1, 2, 4), ("prime", EN, 0, 1, 2, 2),
             ("prime", EN, 0, 2, 1, 3), ("prime", None, 0, 1, 2, 3), ("prime", (4, ()), 0, 1, 2, 3),
             ("prime", plain.chain(4), 0, 1, 2, 3), ("prime", (4, ((0, 1), (0, 2), (1, 3), (2, 3))), 0, 1, 2, 3),
             ("prime", (4, ((0, 2), (1, 2), (1, 3), (1, 3))), 0, 1, 2, 3), ("prime", (4, ((2, 0), (1, 2))), 0, 1, 2, 3),
             ("prime", (4, ((0, 2), (1, 2), (True, 3))), 0, 1, 2, 3), ("prime", (5, EN[1]), 0, 1, 2, 3, 4),
             ("prime", VEE, 0, 1, 2), ("prime", (2, ()), 0, 1), ("prime", EN, ("beside", 0, 4), 1, 2, 3),
             ("prime", EN, 0, ("stack", 1, 3), 2, 4), ("prime", EN, ("prime", EN, 0, 1, 2, 3), 4, 5, 7),
             ("prime", EN, ("prime", EN, 0, 1, 2, 3), 5, 4, 6), ("stack", INNER, INNER), ("stack", 7, INNER))


def around():
    """A list of words and lists that has itself deep in it."""
    own = ["prime", EN, 0, 1, 2]
    own.append(["beside", 3, own])
    return own


def twice_around():
    own = ["prime", EN, 0, 1]
    own += [own, own]
    return own


ENDLESS = NO_END + (around(), twice_around(), ["stack", 0, deep(1, 20000)], ["prime", deep(0, 20000), 0, 1, 2, 3],
                    ["prime", [4, endless()], 0, 1, 2, 3])


def words_in(tree):
    return [tree[0]] + [word for own in tree[1:] if isinstance(own, tuple) for word in words_in(own)] \
        if isinstance(tree, tuple) and isinstance(tree[0], str) else []


def is_prime_told(order):
    return order[0] >= 4 and len(plain.modules(order)) == order[0] + 1


def row_of_strong(order, pieces):
    """The strong MODULES with all of pieces, from the least to the greatest."""
    return sorted((own for own in plain.strong(order) if set(pieces) <= set(own)), key=len)


def primes_told(order):
    return sorted((own, plain.quotient(order, plain.greatest_within(order, own)))
                  for own in plain.strong(order) if len(own) > 1 and plain.word_at(order, own) == "prime")


@functools.lru_cache(maxsize=None)
def nests(pieces):
    """All nests of "beside" and "stack" with these numbers in this sequence, good ones and bad ones."""
    if len(pieces) == 1:
        return pieces
    found = []
    for size in range(2, len(pieces) + 1):
        for cuts in itertools.combinations(range(1, len(pieces)), size - 1):
            ends = (0,) + cuts + (len(pieces),)
            inner = [nests(pieces[low:high]) for low, high in zip(ends, ends[1:])]
            found += [(word,) + row for word in ("beside", "stack") for row in itertools.product(*inner)]
    return found


class Examples(Case):

    def test_examples(self):
        names = dict(vars(primes))
        names.update(six=SIX, big=BIG, en=EN)
        self.examples(EXAMPLES, names)


class Trees(Case):

    def test_the_tree_as_it_is_told(self):
        for order in SMALL + SOME:
            if order[0]:
                tree = plain.tree(order, plain.whole(order))
                self.assertEqual(tree_of(order), tree)
                self.assertIs(is_tree(tree), True)
                self.assertEqual(order_by_tree(tree), order)

    def test_an_n_exactly_with_a_prime(self):
        for order in SMALL + SOME[::3]:
            if order[0]:
                self.assertIs("prime" in words_in(tree_of(order)), bool(plain.ns(order)))

    def test_in_every_guise(self):
        for order in FEW:
            tree = plain.tree(order, plain.whole(order))
            self.gives(tree_of, (order,), tree)
            self.gives(order_by_tree, (tree,), order)
            self.gives(is_tree, (tree,), True)
        self.refuses(tree_of, (EMPTY,), "CanNot()")
        self.gives(order_by_tree, (INNER,), plain.blown(EN, (EN, ONE, ONE, ONE)))
        self.gives(is_tree, (INNER,), True)

    def test_nests_are_trees_of_some_order_or_none(self):
        for many in range(1, 5):
            known = {plain.tree(order, plain.whole(order)) for order in plain.all_orders(many)}
            for row in itertools.permutations(range(many)):
                for nest in nests(row):
                    self.assertIs(is_tree(nest), nest in known)

    def test_five_with_a_prime(self):
        known = {plain.tree(order, plain.whole(order)) for order in plain.all_orders(5)}
        inner = [order for order in plain.all_orders(4) if is_prime_told(order)] + [plain.chain(4)]
        for order, row, at in itertools.product(inner, itertools.permutations(range(5)), range(4)):
            for word in ("beside", "stack"):
                inner_nest = ("prime", order) + row[:at] + ((word,) + row[at:at + 2],) + row[at + 2:]
                outer_nest = (word, ("prime", order) + row[:4], row[4])
                self.assertIs(is_tree(inner_nest), inner_nest in known)
                self.assertIs(is_tree(outer_nest), outer_nest in known)
                self.assertIs(is_tree((word, row[4], outer_nest[1])), (word, row[4], outer_nest[1]) in known)

    def test_is_tree_whatever_thing_is(self):
        for bad in BAD_TREES + ENDLESS:
            self.assertIs(is_tree(bad), False)
        for thing in things():
            self.gives(is_tree, (thing,), repr(thing) == "0")
        for order in FEW[1:]:
            tree = tree_of(order)
            self.gives(is_tree, (list(tree),), False)
            self.gives(is_tree, (("beside", list(tree), order[0]),), False)
            self.gives(is_tree, (tree + (True,),), False)
            self.gives(is_tree, (lists(tree),), False)
        self.gives(is_tree, (("prime", list(EN), 0, 1, 2, 3),), False)
        self.gives(is_tree, (("prime", (4, list(EN[1])), 0, 1, 2, 3),), False)
        self.gives(is_tree, (("beside",) + tuple(range(3000)),), True)
        self.gives(is_tree, (("stack",) + tuple(range(3000)),), True)
        self.gives(is_tree, (("stack",) + tuple(range(2998)) + (2999, 2998),), False)
        self.gives(is_tree, (("prime", plain.fence(200)) + tuple(range(200)),), True)
        self.gives(is_tree, (self.high(20),), True)
        self.gives(is_tree, (("beside",) + tuple(("stack", at, at + 1) for at in range(0, 4000, 2)),), True)

    def high(self, times):
        """A TREE nested so deep."""
        tree = 0
        for piece in range(1, times):
            tree = ("beside" if piece % 2 else "stack", tree, piece)
        return tree

    def test_great_ones(self):
        for many in (59, 60, 200):
            for order, word in ((plain.chain(many), "stack"), ((many, ()), "beside")):
                tree = (word,) + tuple(range(many))
                self.gives(tree_of, (order,), tree)
                self.gives(order_by_tree, (tree,), order)
            fence = plain.fence(many)
            self.gives(tree_of, (fence,), ("prime", fence) + tuple(range(many)))
            self.gives(order_by_tree, (tree_of(fence),), fence)
            tree = self.high(many)
            self.assertEqual(tree_of(order_by_tree(tree)), tree)
            self.assertEqual(tree_depth(order_by_tree(tree)), many)

    def test_great_ones_made_of_small_ones(self):
        for order in (plain.blown(plain.fence(10), [(6, ())] * 10), plain.blown(EN, [plain.fence(15)] * 4),
                      plain.blown(plain.fence(6), [VEE, EN, plain.chain(5), SIX, BIG, ZIG])):
            tree = tree_of(order)
            self.assertEqual(order_by_tree(tree), order)
            self.assertIs(is_tree(tree), True)


class Primes(Case):

    def test_beside_a_plain_search(self):
        for order in SMALL + SOME:
            known = primes_told(order)
            self.assertIs(is_prime(order), is_prime_told(order))
            self.assertEqual(prime_parts(order), known)
            self.assertEqual(widest_prime(order), max([prime[0] for _, prime in known], default=0))
            self.assertTrue(all(is_prime_told(prime) for _, prime in known))

    def test_four_and_five_pieces(self):
        known = [plain.form(order) for order in plain.all_orders(4) if is_prime(order)]
        self.assertEqual(set(known), {plain.form(EN)})
        for order in plain.all_orders(5):
            self.assertIs(is_prime(order), len(plain.modules(order)) == 6)
        self.assertTrue([order for order in plain.all_orders(5) if is_prime(order)])
        for order in plain.small_orders(3):
            self.gives(is_prime, (order,), False)

    def test_prime_less(self):
        for order in SMALL + SOME + plain.random_orders(5, 12, 6, 40):
            whole = plain.whole(order)
            if is_prime_told(order):
                known = tuple(piece for piece in whole
                              if is_prime_told(plain.part(order, whole[:piece] + whole[piece + 1:])))
                self.assertEqual(prime_less(order), known)
                if order[0] > 4 and not known:
                    self.assertTrue(any(is_prime_told(plain.part(order, row))
                                        for row in itertools.combinations(whole, order[0] - 2)))
            else:
                self.assertEqual(ended(prime_less, (order,)), "raises CanNot()")

    def test_depths(self):
        for order in SMALL + SOME:
            rows = [row_of_strong(order, (piece,)) for piece in range(order[0])]
            self.assertEqual(tree_depth(order), max([len(row) for row in rows], default=0))

    def test_in_every_guise(self):
        for order in FEW + [EMPTY]:
            self.gives(is_prime, (order,), is_prime_told(order))
            self.gives(prime_parts, (order,), primes_told(order))
            self.in_every_guise(widest_prime, (order,), repr(max([prime[0] for _, prime in primes_told(order)], default=0)))
            self.in_every_guise(tree_depth, (order,), ended(tree_depth, (order,)))
            self.in_every_guise(prime_less, (order,), ended(prime_less, (order,)))
        self.gives(prime_less, (ZIG,), (0, 5))
        self.gives(tree_depth, (EMPTY,), 0)
        for order in (EMPTY, ONE, VEE, SIX, plain.STREWN):
            self.refuses(prime_less, (order,), "CanNot()")

    def test_great_ones(self):
        fence = plain.fence(60)
        self.gives(is_prime, (fence,), True)
        self.gives(widest_prime, (fence,), 60)
        self.gives(prime_parts, (fence,), [(tuple(range(60)), fence)])
        self.assertEqual(sorted(prime_less(fence)), [0, 59])
        self.gives(tree_depth, (fence,), 2)
        both = plain.side_by_side(plain.fence(30), plain.fence(29))
        self.gives(widest_prime, (both,), 30)
        self.gives(is_prime, (both,), False)
        self.gives(prime_parts, (both,), [(tuple(range(30)), plain.fence(30)), (tuple(range(30, 59)), plain.fence(29))])


class Meetings(Case):

    def test_beside_a_plain_search(self):
        for order in SMALL + SOME:
            for piece, other in itertools.product(range(order[0]), repeat=2):
                self.assertEqual(strong_with(order, piece), row_of_strong(order, (piece,)))
                if piece == other:
                    self.assertEqual(ended(meeting, (order, piece, other)), "raises CanNot()")
                else:
                    own = row_of_strong(order, (piece, other))[0]
                    self.assertEqual(meeting(order, piece, other), (plain.word_at(order, own), own))

    def test_in_every_guise(self):
        for piece, other in itertools.product(range(7), repeat=2):
            self.gives(strong_with, (BIG, piece), row_of_strong(BIG, (piece,)))
            self.in_every_guise(meeting, (BIG, piece, other), ended(meeting, (BIG, piece, other)))
        self.gives(meeting, (BIG, 6, 5), ("beside", (5, 6)))
        self.gives(meeting, (BIG, 6, 3), ("stack", (3, 5, 6)))
        self.gives(strong_with, (ONE, 0), [(0,)])
        self.gives(strong_with, (plain.STREWN, 59), [(59,), tuple(range(60))])
        self.gives(meeting, (plain.STALK, 59, 0), ("stack", tuple(range(60))))
        self.refuses(meeting, (ONE, 0, 0), "CanNot()")


class Refused(Case):

    def test_what_is_no_order(self):
        for bad in BAD_ORDERS + NO_END:
            for function in (tree_of, is_prime, prime_parts, widest_prime, tree_depth, prime_less):
                self.unfit(function, bad)
            self.unfit(strong_with, bad, 0)
            self.unfit(strong_with, bad, -1)
            self.unfit(meeting, bad, 0, 0)
            self.unfit(meeting, bad, 9, 9)

    def test_what_is_no_tree(self):
        for bad in BAD_TREES + ENDLESS:
            self.unfit(order_by_tree, bad)
            self.unfit(order_by_tree, lists(bad))

    def test_what_is_no_number(self):
        for bad in NO_NUMBERS + NO_END:
            self.unfit(strong_with, SIX, bad)
            for other in (0, 6, -1, bad):
                self.unfit(meeting, SIX, bad, other)
                self.unfit(meeting, SIX, other, bad)

    def test_what_is_no_piece(self):
        for bad in (-1, -6, 6, 7, 10 ** 6):
            told = f"NoPiece(piece={bad})"
            self.refuses(strong_with, (SIX, bad), told)
            for other in (0, 5):
                self.refuses(meeting, (SIX, bad, other), told)
                self.refuses(meeting, (SIX, other, bad), told)
            self.refuses(meeting, (SIX, bad, bad), told)
            self.refuses(meeting, (SIX, bad, 8), told)
            self.refuses(strong_with, (EMPTY, bad), told)
        self.refuses(meeting, (EMPTY, 0, 0), "NoPiece(piece=0)")
        self.refuses(strong_with, (EMPTY, 0), "NoPiece(piece=0)")


if __name__ == "__main__":
    unittest.main()
