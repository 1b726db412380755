"""[24]: changes of an order."""

import itertools
import random
import unittest

from eatenorders import changes as own
from eatenorders.changes import can_more, changed, changes_between, idle_pieces, idle_ties, is_changes_between, pair_less
from eatenorders.changes import pair_more, piece_less, piece_more, unlike_pairs, worths_less
from tests import plain
from tests.checks import BAD_ORDERS, NO_END, NO_NUMBERS, Case, ended, lists, things

EXAMPLES = r"""
    >>> en, slab, chain3 = (4, ((0, 2), (1, 2), (1, 3))), (4, ((0, 1), (0, 2), (1, 3), (2, 3))), (3, ((0, 1), (1, 2)))
    >>> piece_more(en, (2,)), piece_more(chain3, (0, 1)), piece_less(slab, 1), piece_less(slab, 0)
    ((5, ((0, 2), (1, 2), (1, 3), (2, 4))), (4, ((0, 1), (1, 2), (1, 3))), (3, ((0, 1), (1, 2))), (3, ((0, 2), (1, 2))))
    >>> can_more(en), pair_more(en, 0, 3), pair_less(en, 1, 2), pair_less(chain3, 0, 1)
    (((0, 3),), (4, ((0, 2), (0, 3), (1, 2), (1, 3))), (4, ((0, 2), (1, 3))), (3, ((0, 2), (1, 2))))
    >>> unlike_pairs(en, slab), len(changes_between(en, slab)), changes_between(chain3, chain3), is_changes_between(chain3, (3, ()), (("less", 1, 2), ("less", 0, 2), ("less", 0, 1)))
    (((0, 1), (0, 3), (1, 2), (2, 3)), 4, (), True)
    >>> changed(chain3, (("less", 0, 1), ("more", 0, 1))) == chain3, worths_less(en), idle_pieces(slab), idle_ties(slab)
    (True, (1, 3, 3, 2), (1, 2), ())
    >>> changed(chain3, (("less", 0, 1), ("less", 0, 1)))
    raises Broken(number=1)
    >>> pair_less(chain3, 0, 2)
    raises CanNot()
    >>> piece_less(en, 4)
    raises NoPiece(piece=4)
"""

EMPTY, ONE, TWO, LINK, EN = (0, ()), (1, ()), (2, ()), (2, ((0, 1),)), plain.ENN
SLAB, CHAIN3, LOOSE = (4, ((0, 1), (0, 2), (1, 3), (2, 3))), plain.chain(3), (3, ())
FEW = [EMPTY, ONE, TWO, LINK, CHAIN3, LOOSE, EN, SLAB, (4, ((0, 1), (2, 3)))]

WITH_LEFTS = (worths_less, idle_pieces, idle_ties)
DOWN = (("less", 0, 1), ("less", 1, 2), ("less", 0, 2))

# No tuples of CHANGES of CHAIN3.
NO_CHANGES = (None, True, 0, "", "less", {}, {0}, 1.5, ("less", 0, 1), ((),), (("less",),), (("less", 0),), (("less", 0, 1, 2),), ((0, 1),),
              ((0, 1, "less"),), (("les", 0, 1),), (("LESS", 0, 1),), (("", 0, 1),), ((None, 0, 1),), ((True, 0, 1),), ((0, 0, 1),), (("less", 0, 3),),
              (("less", 3, 0),), (("less", -1, 0),), (("less", False, 1),), (("less", 0, True),), (("less", 0, None),), (("less", "0", 1),),
              (("less", 0, 1.0),), (("less", (0,), 1),), ((("less",), 0, 1),), (DOWN, DOWN), DOWN + (None,), DOWN + ((),), ({"less": 0},), *NO_END)


def set_of(order):
    return plain.set_left(order, plain.whole(order))


def set_by_masks(order):
    worths, above = plain.worths_by_masks(order)
    return tuple(sorted({worths[(2 ** order[0] - 1) & ~mask] for mask in above}))


def less(order, piece):
    return plain.part(order, [one for one in range(order[0]) if one != piece])


def is_pair_order(many, pairs):
    """Whether pairs, low less than high, are all pairs of some ORDER."""
    return all((low, top) in pairs for low, high in pairs for one, top in pairs if high == one)


def by_change(order, change):
    """The ORDER behind a CHANGE, None if it cannot be done: just this pair comes, or goes, and an ORDER is left."""
    word, low, high = change
    pairs = set(plain.pairs_of(order))
    if low >= high or ((low, high) in pairs) != (word == "less"):
        return None
    pairs ^= {(low, high)}
    return plain.order_of_pairs(order[0], pairs) if is_pair_order(order[0], pairs) else None


def behind(order, steps):
    """The ORDER behind CHANGES; the number of the first that cannot be done."""
    for number, step in enumerate(steps):
        order = by_change(order, step)
        if order is None:
            return number
    return order


def unlike(order, other):
    return tuple(sorted(plain.pairs_of(order) ^ plain.pairs_of(other)))


def all_changes(many):
    return [(word, low, high) for word in ("more", "less") for low in range(many) for high in range(many)]


def idle(order):
    pieces = tuple(piece for piece in range(order[0]) if set_of(less(order, piece)) == set_of(order))
    return pieces, tuple(tie for tie in order[1] if set_of(by_change(order, ("less",) + tie)) == set_of(order))


class Examples(Case):

    def test_examples(self):
        self.examples(EXAMPLES, dict(vars(own)))


class Pieces(Case):

    def test_piece_more(self):
        for order in plain.small_orders(4):
            for pieces in plain.sets_below(order[0]):
                under = {low for low in range(order[0]) for high in pieces if low == high or (low, high) in plain.pairs_of(order)}
                pairs = plain.pairs_of(order) | {(low, order[0]) for low in under}
                told = plain.order_of_pairs(order[0] + 1, pairs)
                self.assertEqual(piece_more(order, pieces), told)
                self.assertEqual(piece_less(told, order[0]), order)
                self.check_worths(order, told, bool(pieces))

    def check_worths(self, order, told, tied):
        before, after = [plain.worth(one, plain.whole(one)) for one in (order, told)]
        self.assertIn(before, set_of(told))
        self.assertNotEqual(before, after)
        if not tied:
            self.assertEqual(after, before ^ 1)

    def test_piece_less(self):
        for order in plain.small_orders() + plain.some_orders()[:9]:
            for piece in range(order[0]):
                self.assertEqual(piece_less(order, piece), less(order, piece))

    def test_in_every_guise(self):
        for order in FEW:
            for pieces in plain.sets_below(order[0])[::3]:
                self.gives(piece_more, (order, pieces), piece_more(order, pieces))
            for piece in range(order[0]):
                self.gives(piece_less, (order, piece), less(order, piece))
            for piece in (-1, order[0], 10 ** 6):
                self.refuses(piece_less, (order, piece), f"NoPiece(piece={piece})")
        self.gives(piece_more, (EMPTY, ()), ONE)
        self.gives(piece_more, (plain.STREWN, tuple(range(60))), (61, tuple((low, 60) for low in range(60))))
        self.gives(piece_more, (plain.STALK, (59,)), plain.chain(61))
        self.gives(piece_more, (plain.STALK, tuple(range(60))), plain.chain(61))


class Pairs(Case):

    def test_all_pairs_of_small_orders(self):
        for order in plain.small_orders(4) + list(plain.all_orders(5))[::4]:
            more = [change[1:] for change in all_changes(order[0]) if change[0] == "more" and by_change(order, change)]
            self.assertEqual(can_more(order), tuple(sorted(more)))
            for word, low, high in all_changes(order[0]):
                function = pair_more if word == "more" else pair_less
                told = by_change(order, (word, low, high))
                self.assertEqual(ended(function, (order, low, high)), "raises CanNot()" if told is None else repr(told))

    def test_ties_alone_can_go(self):
        for order in plain.small_orders(4):
            self.assertEqual(tuple(pair for pair in sorted(plain.pairs_of(order)) if by_change(order, ("less",) + pair)), order[1])

    def test_in_every_guise(self):
        for order in FEW:
            self.gives(can_more, (order,), can_more(order))
            for word, low, high in all_changes(order[0])[::2]:
                told = by_change(order, (word, low, high))
                function = pair_more if word == "more" else pair_less
                self.in_every_guise(function, (order, low, high), "raises CanNot()" if told is None else repr(told))

    def test_a_tie_that_leaves_pairs_behind(self):
        self.gives(pair_less, (plain.chain(4), 1, 2), (4, ((0, 1), (0, 2), (1, 3), (2, 3))))
        self.gives(pair_less, (plain.STALK, 0, 1), (60, ((0, 2), (1, 2)) + plain.STALK[1][2:]))
        self.gives(can_more, (plain.STREWN,), tuple(itertools.combinations(range(60), 2)))
        self.gives(can_more, (plain.STALK,), ())
        self.gives(can_more, (EMPTY,), ())

    def test_no_piece(self):
        for function in (pair_more, pair_less):
            for low, high, told in ((-1, 0, -1), (4, 0, 4), (0, 4, 4), (0, -1, -1), (5, 9, 5), (9, 5, 9), (-1, 4, -1), (1, 10 ** 6, 10 ** 6)):
                self.refuses(function, (EN, low, high), f"NoPiece(piece={told})")
            self.refuses(function, (EMPTY, 0, 1), "NoPiece(piece=0)")
            self.refuses(function, (ONE, 0, 1), "NoPiece(piece=1)")
            for low, high in ((0, 0), (3, 0), (2, 1)):
                self.refuses(function, (EN, low, high), "CanNot()")


class Changes(Case):

    def test_changed(self):
        for order in plain.small_orders(3):
            for size in range(3):
                for steps in itertools.product(all_changes(order[0]), repeat=size):
                    self.check(order, steps)

    def check(self, order, steps):
        told = behind(order, steps)
        told = f"raises Broken(number={told})" if isinstance(told, int) else repr(told)
        self.assertEqual(ended(changed, (order, steps)), told)

    def test_changed_at_random(self):
        rng = random.Random(25)
        for order in list(plain.all_orders(4)) + list(plain.all_orders(5))[::10] + plain.some_orders()[:9]:
            for _ in range(4):
                now, steps = order, ()
                for _ in range(rng.randrange(8)):
                    fit = [step for step in all_changes(order[0]) if step[1] < step[2] and by_change(now, step)]
                    steps += (rng.choice(fit),)
                    now = by_change(now, steps[-1])
                self.assertEqual(changed(order, steps), now)
                more = steps + (rng.choice(all_changes(order[0])),) + steps
                self.check(order, more)

    def test_changed_in_every_guise(self):
        for order, steps in ((CHAIN3, ()), (CHAIN3, DOWN), (LOOSE, (("more", 0, 2), ("more", 0, 1))), (CHAIN3, DOWN[:1] + DOWN[1::-1])):
            told = behind(order, steps)
            self.in_every_guise(changed, (order, steps), f"raises Broken(number={told})" if isinstance(told, int) else repr(told))
        for steps, number in (((("more", 0, 1),), 0), (DOWN[:2] + DOWN, 2), (DOWN + (("more", 1, 1),), 3), (DOWN + (("more", 2, 0),), 3),
                              (DOWN + (("more", 0, 1), ("more", 1, 2)), 4), ((("less", 0, 2),), 0), ((("less", 1, 0),), 0)):
            self.refuses(changed, (CHAIN3, steps), f"Broken(number={number})")
        self.gives(changed, (EMPTY, ()), EMPTY)
        self.gives(changed, (LINK, (("less", 0, 1), ("more", 0, 1)) * 200), LINK)
        self.refuses(changed, (LINK, (("less", 0, 1), ("more", 0, 1)) * 200 + (("more", 0, 1),)), "Broken(number=400)")

    def test_between_all_orders_of_as_many_pieces(self):
        for many in range(5):
            for order, other in itertools.product(plain.all_orders(many), repeat=2):
                self.between(order, other)
        rng = random.Random(26)
        for _ in range(300):
            self.between(*rng.choices(plain.all_orders(5), k=2))
        for order, other in zip(plain.random_orders(61, 5, 9, 20), plain.random_orders(62, 5, 9, 40)):
            self.between(order, other)

    def between(self, order, other):
        self.assertEqual(unlike_pairs(order, other), unlike(order, other))
        steps = changes_between(order, other)
        self.assertEqual(len(steps), len(unlike(order, other)))
        self.assertEqual(behind(order, steps), other)
        self.assertIs(is_changes_between(order, other, steps), True)

    def test_is_changes_between(self):
        for order, other in itertools.product(plain.all_orders(3), repeat=2):
            for size in range(4):
                for steps in itertools.product(all_changes(3), repeat=size) if size < 3 else itertools.permutations(all_changes(3)[9:], 3):
                    told = size == len(unlike(order, other)) and behind(order, steps) == other
                    self.assertIs(is_changes_between(order, other, steps), told)

    def test_between_in_every_guise(self):
        for many in (0, 1, 2, 3, 4):
            fit = [order for order in FEW if order[0] == many]
            for order, other in itertools.product(fit, repeat=2):
                self.gives(unlike_pairs, (order, other), unlike(order, other))
                self.gives(changes_between, (order, other), changes_between(order, other))
                self.gives(is_changes_between, (order, other, changes_between(order, other)), True)
                self.gives(is_changes_between, (order, other, changes_between(order, other) + DOWN), False)

    def test_sixty_pieces(self):
        for order, other in ((plain.STALK, plain.STREWN), (plain.STREWN, plain.STALK), (plain.crown(30), plain.fence(60)),
                             (plain.side_by_side(plain.chain(30), plain.chain(30)), plain.stacked(*[(3, ())] * 20))):
            steps = changes_between(order, other)
            self.assertEqual(len(steps), len(unlike_pairs(order, other)))
            self.assertEqual(changed(order, steps), other)
            self.assertIs(is_changes_between(order, other, steps), True)
            self.assertIs(is_changes_between(order, other, steps[:-1]), False)
            self.assertIs(is_changes_between(order, other, steps + (("less", 0, 1), ("more", 0, 1))), False)

    def test_whatever_thing_is(self):
        for bad in NO_CHANGES:
            self.assertIs(is_changes_between(CHAIN3, LOOSE, bad), False)
            self.assertIs(is_changes_between(CHAIN3, CHAIN3, bad), False)
        for thing in things():
            told = repr(thing)
            self.gives(is_changes_between, (CHAIN3, CHAIN3, thing), told == "()")
            self.gives(is_changes_between, (LINK, TWO, thing), False)
            self.gives(is_changes_between, (LINK, TWO, (thing,)), False)
            self.gives(is_changes_between, (LINK, TWO, (("less", thing, 1),)), told == "0")
            self.gives(is_changes_between, (LINK, TWO, (("less", 0, thing),)), told == "1")
            self.gives(is_changes_between, (LINK, TWO, ((thing, 0, 1),)), False)
            self.unfit(is_changes_between, (2, ((1, 0),)), TWO, thing)
            self.unfit(is_changes_between, TWO, LOOSE, thing)
        down = changes_between(CHAIN3, LOOSE)
        for bad in (list(down), tuple(list(step) for step in down), down[::-1], down[:2], down + down[:1], down[:2] + down[:1]):
            self.gives(is_changes_between, (CHAIN3, LOOSE, bad), False)
        self.gives(is_changes_between, (CHAIN3, LOOSE, down), True)


class Worths(Case):

    def check(self, order):
        self.assertEqual(worths_less(order), tuple(plain.worth(one, plain.whole(one)) for one in
                                                   [less(order, piece) for piece in range(order[0])]))
        self.assertEqual((idle_pieces(order), idle_ties(order)), idle(order))

    def test_all_small_orders(self):
        for order in plain.small_orders() + plain.some_orders()[:8]:
            self.check(order)

    def test_in_every_guise(self):
        for order in FEW:
            self.gives(worths_less, (order,), tuple(plain.worth(one, plain.whole(one)) for one in
                                                    [less(order, piece) for piece in range(order[0])]))
            self.gives(idle_pieces, (order,), idle(order)[0])
            self.gives(idle_ties, (order,), idle(order)[1])

    def test_just_two_thousand_lefts(self):
        order = plain.JUST_FEW
        self.assertEqual(worths_less(order), (4 ^ 4 ^ 3,) * 12 + (4 ^ 1,) * 4)
        self.assertEqual(idle_pieces(order), ())
        # Without a tie there are more LEFTS.
        self.refuses(idle_ties, (order,), "TooMany()")

    def test_more_lefts(self):
        for order in plain.MANY_LEFTS:
            for function in WITH_LEFTS:
                self.refuses(function, (order,), "TooMany()")
        # Few LEFTS without whichever piece, but 2,001 with all.
        for function in WITH_LEFTS:
            self.refuses(function, (plain.NOT_FEW,), "TooMany()")

    def test_lefts_that_come_of_taking_a_tie(self):
        # 1,500 LEFTS, just 2,000 without the tie of the CHAIN of two, and one more each with a piece on top.
        just = plain.side_by_side(LINK, plain.chain(4), plain.chain(4), plain.chain(4), TWO)
        told = [set_by_masks(plain.order_of_pairs(just[0], plain.pairs_of(just) - {tie})) == set_by_masks(just) for tie in just[1]]
        self.assertEqual(idle_ties(just), tuple(tie for tie, same in zip(just[1], told) if same))
        more = plain.stacked(just, ONE)
        self.refuses(idle_ties, (more,), "TooMany()")
        self.assertEqual(worths_less(more), tuple(plain.worths_by_masks(less(more, piece))[0][2 ** 16 - 1] for piece in range(17)))
        self.assertEqual(idle_pieces(more), tuple(piece for piece in range(17) if set_by_masks(less(more, piece)) == set_by_masks(more)))

    def test_sixty_pieces(self):
        stalk = plain.STALK
        self.gives(worths_less, (stalk,), (59,) * 60)
        self.gives(idle_pieces, (stalk,), ())
        self.assertEqual(idle_ties(stalk), ())
        threes = plain.stacked(*[(3, ())] * 20)
        # Two loose pieces have the SET (1,): what is stacked on them takes the place that they lack.
        self.assertEqual(worths_less(threes), (20,) * 57 + (19,) * 3)


class Refused(Case):

    def test_what_is_no_order(self):
        for bad in BAD_ORDERS + NO_END:
            for function in WITH_LEFTS + (can_more,):
                self.unfit(function, bad)
            for other in ((), 0, None):
                self.unfit(piece_more, bad, other)
                self.unfit(piece_less, bad, other)
                self.unfit(changed, bad, other)
                self.unfit(pair_more, bad, other, 9)
                self.unfit(pair_less, bad, 9, other)
            for other in (TWO, bad, None):
                for function in (unlike_pairs, changes_between):
                    self.unfit(function, bad, other)
                    self.unfit(function, other, bad)
                self.unfit(is_changes_between, bad, other, ())
                self.unfit(is_changes_between, other, bad, None)

    def test_orders_of_other_many(self):
        for order, other in itertools.product(FEW, repeat=2):
            if order[0] != other[0]:
                for function in (unlike_pairs, changes_between):
                    self.refuses(function, (order, other), "Unfit()")
                self.refuses(is_changes_between, (order, other, ()), "Unfit()")
        self.unfit(unlike_pairs, plain.STALK, plain.chain(59))

    def test_what_is_no_set_of_pieces(self):
        for bad in (None, True, 0, "", "0", {}, {0}, 1.5, (0, 0), (1, 0), (4,), (0, 4), (-1,), (True,), (0, True), (None,), ("0",), (1.0,),
                    ((0,),), ((),), *NO_END):
            for pieces in (bad, lists(bad)):
                self.unfit(piece_more, EN, pieces)

    def test_what_is_no_number(self):
        for bad in NO_NUMBERS + NO_END:
            self.unfit(piece_less, EN, bad)
            for other in (0, 4, None):
                for function in (pair_more, pair_less):
                    self.unfit(function, EN, bad, other)
                    self.unfit(function, EN, other, bad)

    def test_what_are_no_changes(self):
        for bad in NO_CHANGES:
            for steps in (bad, lists(bad)):
                self.unfit(changed, CHAIN3, steps)
        for bad in (("less", 0, 1),), (("more", 0, 2),), (("more", 2, 1),):
            self.unfit(changed, ONE, bad)
        # Also behind one that cannot be done.
        self.unfit(changed, CHAIN3, (("more", 0, 1), ("less", 0, 3)))


if __name__ == "__main__":
    unittest.main()
