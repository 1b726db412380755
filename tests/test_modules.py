"""[13]: modules."""

import itertools
import unittest

from eatenorders import modules as modules_file
from eatenorders.modules import are_crossing, crossed, how_many_modules, how_they_lie, is_cut, is_module, module_around
from eatenorders.modules import modules, quotient, strong_modules, top_cut
from tests import plain
from tests.checks import BAD_ORDERS, NO_END, Case, ended, lists, things

EXAMPLES = r"""
    >>> en, six = (4, ((0, 2), (1, 2), (1, 3))), (6, ((0, 1), (0, 2), (1, 3), (2, 3), (3, 4), (3, 5)))
    >>> big = (7, ((0, 3), (1, 3), (1, 4), (2, 4), (3, 5), (3, 6)))
    >>> modules(en), strong_modules(six), how_many_modules(six), [how_many_modules((own, ())) for own in (0, 1, 2, 3, 10)]
    ([(0,), (0, 1, 2, 3), (1,), (2,), (3,)], [(0,), (0, 1, 2, 3, 4, 5), (1,), (1, 2), (2,), (3,), (4,), (4, 5), (5,)], 14, [0, 1, 3, 7, 1023])
    >>> [is_module(six, own) for own in ((1, 2), (0, 1, 2), (0, 1), (), [1, 2])], module_around(six, (1, 3)), module_around(big, (3, 6))
    ([True, True, False, False, False], (1, 2, 3), (3, 5, 6))
    >>> crossed(six, (0, 1, 2), (1, 2, 3)), are_crossing(six, (1, 2), (1, 2, 3)), how_they_lie(six, (1, 2), (4, 5)), how_they_lie(six, (1,), (2,))
    (((0, 1, 2, 3), (1, 2), (0,), (3,)), False, 'under', 'beside')
    >>> top_cut(six), quotient(six, top_cut(six)), top_cut(big), quotient(big, top_cut(big))
    (((0,), (1, 2), (3,), (4, 5)), (4, ((0, 1), (1, 2), (2, 3))), ((0,), (1,), (2,), (3, 5, 6), (4,)), (5, ((0, 3), (1, 3), (1, 4), (2, 4))))
    >>> top_cut((1, ())), [is_cut(six, own) for own in (((0,), (1, 2), (3, 4, 5)), ((0,), (1,), (2, 3), (4, 5)))]
    (((0,),), [True, False])
    >>> crossed(six, (1, 2), (1, 2, 3))
    raises CanNot()
    >>> modules((11, ()))
    raises TooMany()
    >>> how_they_lie(six, (0, 1), (4,))
    raises Unfit()
"""

EN, EMPTY, ONE, VEE, SIX = plain.ENN, (0, ()), (1, ()), (3, ((0, 1), (0, 2))), (6, ((0, 1), (0, 2), (1, 3), (2, 3), (3, 4), (3, 5)))
BIG = (7, ((0, 3), (1, 3), (1, 4), (2, 4), (3, 5), (3, 6)))
SMALL = plain.small_orders()
SOME = plain.some_orders()[:12] + [SIX, BIG, plain.fence(7), plain.fence(8), plain.crown(4)]
FEW = [EMPTY, ONE, (2, ()), VEE, EN, SIX, plain.chain(4), plain.side_by_side(plain.chain(2), plain.chain(2))]

# No sets, not (), of pieces of SIX.
NO_SETS = (None, True, 0, 1, "", "0", "01", {}, {0}, {0: 1}, 1.5, (), (0, 0), (1, 0), (0, 2, 1), (6,), (0, 6), (-1,), (-1, 0),
           (True,), (0, True), (None,), ("0",), (0, "1"), (1.0,), ((0,),), (0, (1,)), ((),), (0, 1, 2, 3, 4, 5, 6), *NO_END)

# No MODULES of SIX.
NO_MODULES = NO_SETS + ((0, 1), (1, 2, 4), (0, 3), (1, 3), (0, 4, 5), (2, 3), (3, 4), (0, 1, 3), (0, 5), (0, 1, 2, 4, 5))


def least_with(order, pieces):
    """The one MODULE with all of pieces that lies within all such."""
    found = [own for own in plain.modules(order) if set(pieces) <= set(own)]
    least = min(found, key=len)
    assert all(set(least) <= set(own) for own in found)
    return least


def cuts(order):
    """All sets of MODULES with each piece in just one of them, ascending."""
    found = [((), plain.whole(order))]
    done = []
    while found:
        cut, rest = found.pop()
        if not rest:
            done.append(tuple(sorted(cut)))
        else:
            found += [(cut + (own,), tuple(piece for piece in rest if piece not in own))
                      for own in plain.modules(order) if own[0] == rest[0] and set(own) <= set(rest)]
    return sorted(done)


def way(order, module, other):
    """How each piece of module lies to each of other: one way for all."""
    ways = {plain.lies(order, one, two) for one in module for two in other}
    assert len(ways) == 1
    return ways.pop()


class Examples(Case):

    def test_examples(self):
        self.examples(EXAMPLES, dict(vars(modules_file)))


class Modules(Case):

    def test_beside_a_plain_search_through_all_sets(self):
        for order in SMALL + SOME:
            known = list(plain.modules(order))
            self.assertEqual(modules(order), known)
            self.assertEqual(how_many_modules(order), len(known))
            self.assertEqual(strong_modules(order), list(plain.strong(order)))
            self.assertLess(len(strong_modules(order)), max(2 * order[0], 1))

    def test_is_module(self):
        for order in SMALL + SOME[:4]:
            known = set(plain.modules(order))
            for pieces in plain.sets_below(order[0]):
                self.assertIs(is_module(order, pieces), pieces in known)

    def test_module_around(self):
        for order in SMALL + SOME[::5]:
            for pieces in plain.sets_below(order[0]):
                if pieces:
                    self.assertEqual(module_around(order, pieces), least_with(order, pieces))

    def test_top_cut(self):
        for order in SMALL + SOME:
            if order[0] > 1:
                self.assertEqual(top_cut(order), plain.greatest_within(order, plain.whole(order)))
        self.gives(top_cut, (ONE,), ((0,),))
        self.refuses(top_cut, (EMPTY,), "CanNot()")

    def test_turned(self):
        for order in SMALL[::3] + SOME:
            last = order[0] - 1
            turned = sorted(tuple(sorted(last - piece for piece in own)) for own in modules(order))
            self.assertEqual(modules(plain.turned(order)), turned)

    def test_each_is_strong_or_put_together_of_greatest_ones(self):
        for order in SMALL[::2] + SOME:
            strong = strong_modules(order)
            for own in modules(order):
                if own not in strong:
                    around = min((other for other in strong if set(own) < set(other)), key=len)
                    inner = plain.greatest_within(order, around)
                    self.assertTrue(all(set(part) <= set(own) or not set(part) & set(own) for part in inner))

    def test_in_every_guise(self):
        for order in FEW:
            self.gives(modules, (order,), list(plain.modules(order)))
            self.gives(how_many_modules, (order,), len(plain.modules(order)))
            self.gives(strong_modules, (order,), list(plain.strong(order)))
            if order[0] > 1:
                self.gives(top_cut, (order,), plain.greatest_within(order, plain.whole(order)))
            for pieces in plain.sets_below(order[0])[1:]:
                self.gives(module_around, (order, pieces), least_with(order, pieces))
                self.gives(is_module, (order, pieces), plain.is_module(order, pieces))

    def test_is_module_whatever_thing_is(self):
        for bad in NO_MODULES:
            self.assertIs(is_module(SIX, bad), False)
        for thing in things():
            told = repr(thing)
            self.gives(is_module, ((2, ()), thing), told in ("(0,)", "(0, 1)"))
            self.gives(is_module, (EMPTY, thing), False)
            self.gives(is_module, (plain.chain(60), thing), told in ("(0,)", "(0, 1)", "(0, 1, 2, 3)"))
        for own in plain.modules(SIX):
            self.gives(is_module, (SIX, list(own)), False)
            self.gives(is_module, (SIX, own + own[-1:]), False)
            self.gives(is_module, (SIX, own[:-1] + (True,)), False)


class GreatOnes(Case):

    def test_sixty_pieces(self):
        strewn, stalk = plain.STREWN, plain.STALK
        self.gives(how_many_modules, (strewn,), 2 ** 60 - 1)
        self.gives(how_many_modules, (stalk,), 60 * 61 // 2)
        self.assertEqual(modules(stalk), sorted(tuple(range(low, high)) for low in range(60) for high in range(low + 1, 61)))
        singles = [(piece,) for piece in range(60)]
        for order in (strewn, stalk, plain.fence(60)):
            self.gives(strong_modules, (order,), sorted(singles + [tuple(range(60))]))
            self.gives(top_cut, (order,), tuple(singles))
        self.gives(how_many_modules, (plain.fence(60),), 61)
        self.gives(modules, (plain.fence(60),), sorted(singles + [tuple(range(60))]))
        self.gives(module_around, (strewn, (3, 40)), (3, 40))
        self.gives(module_around, (stalk, (3, 40)), tuple(range(3, 41)))
        self.gives(module_around, (plain.fence(60), (3, 40)), tuple(range(60)))
        self.gives(is_module, (strewn, tuple(range(0, 60, 7))), True)
        self.gives(is_module, (stalk, tuple(range(0, 60, 7))), False)
        self.gives(quotient, (stalk, tuple((3 * at, 3 * at + 1, 3 * at + 2) for at in range(20))), plain.chain(20))
        self.gives(crossed, (strewn, (0, 1, 59), (1, 2)), ((0, 1, 2, 59), (1,), (0, 59), (2,)))
        self.gives(how_they_lie, (stalk, tuple(range(9, 30)), tuple(range(9))), "above")

    def test_more_than_two_thousand(self):
        for order in (plain.ELEVEN, plain.STREWN, plain.side_by_side(plain.STREWN, ONE), plain.chain(63)):
            self.refuses(modules, (order,), "TooMany()")
        self.gives(how_many_modules, (plain.ELEVEN,), 2047)
        self.gives(how_many_modules, (plain.chain(63),), 2016)

    def test_just_two_thousand_and_one_more(self):
        # Ten rows beside one another have 1,023 MODULES, but one of each row, and those of each row.
        for high, many in (((43, 7, 2, 2), 1999), ((43, 7, 3, 1), 2000), ((43, 7, 2, 2, 2), 2001)):
            order = plain.side_by_side(*[plain.chain(own) for own in high + (1,) * (10 - len(high))])
            self.gives(how_many_modules, (order,), many)
            if many > 2000:
                self.refuses(modules, (order,), "TooMany()")
            else:
                found = modules(order)
                self.assertEqual((len(set(found)), found), (many, sorted(found)))
                self.assertTrue(all(is_module(order, own) for own in found[::50]))


class Pairs(Case):

    def test_all_pairs_of_modules(self):
        for order in plain.small_orders(4) + list(plain.all_orders(5))[::6] + [SIX, BIG]:
            known = plain.modules(order)
            for module, other in itertools.product(known, repeat=2):
                self.check(order, module, other)

    def check(self, order, module, other):
        cross = plain.cross(module, other)
        self.assertIs(are_crossing(order, module, other), cross)
        one, two = set(module), set(other)
        if cross:
            told = tuple(tuple(sorted(own)) for own in (one | two, one & two, one - two, two - one))
            self.assertEqual(crossed(order, module, other), told)
            self.assertTrue(all(plain.is_module(order, own) for own in told))
        else:
            self.assertEqual(ended(crossed, (order, module, other)), "raises CanNot()")
        if one & two:
            self.assertEqual(ended(how_they_lie, (order, module, other)), "raises CanNot()")
        else:
            self.assertEqual(how_they_lie(order, module, other), way(order, module, other))

    def test_in_every_guise(self):
        for module, other in itertools.product(plain.modules(SIX), repeat=2):
            self.gives(are_crossing, (SIX, module, other), plain.cross(module, other))
            self.in_every_guise(crossed, (SIX, module, other), ended(crossed, (SIX, module, other)))
            self.in_every_guise(how_they_lie, (SIX, module, other), ended(how_they_lie, (SIX, module, other)))
        self.gives(crossed, (SIX, (0, 1, 2), (1, 2, 3)), ((0, 1, 2, 3), (1, 2), (0,), (3,)))
        self.gives(how_they_lie, (SIX, (4,), (1, 2)), "above")
        self.gives(how_they_lie, (SIX, (1, 2), (4,)), "under")
        self.gives(how_they_lie, (SIX, (5,), (4,)), "beside")

    def test_strong_ones_lie_within_or_apart(self):
        for order in SMALL[::3] + SOME:
            for module, other in itertools.product(strong_modules(order), repeat=2):
                self.assertIs(are_crossing(order, module, other), False)


class Cuts(Case):

    def test_all_cuts(self):
        for order in plain.small_orders(4) + list(plain.all_orders(5))[::9] + [SIX]:
            for cut in cuts(order):
                self.assertIs(is_cut(order, cut), True)
                self.assertEqual(quotient(order, cut), plain.quotient(order, cut))

    def test_all_sets_of_sets(self):
        for order in plain.small_orders(3):
            known = set(cuts(order))
            for size in range(5):
                for own in itertools.combinations(sorted(plain.sets_below(order[0])), size):
                    self.assertIs(is_cut(order, own), own in known)
                    self.assertIs(is_cut(order, own[::-1]), own in known and len(own) < 2)

    def test_in_every_guise(self):
        for order in FEW:
            for cut in cuts(order):
                self.gives(is_cut, (order, cut), True)
                self.gives(quotient, (order, cut), plain.quotient(order, cut))
        self.gives(is_cut, (EMPTY, ()), True)
        self.gives(quotient, (EMPTY, ()), EMPTY)

    def test_is_cut_whatever_thing_is(self):
        for bad in self.no_cuts():
            self.assertIs(is_cut(SIX, bad), False)
        for thing in things():
            told = repr(thing)
            self.gives(is_cut, (EMPTY, thing), told == "()")
            self.gives(is_cut, (ONE, thing), told == "((0,),)")
            self.gives(is_cut, ((2, ()), thing), told == "((0, 1),)")
        self.gives(is_cut, (SIX, [(0, 1, 2, 3, 4, 5)]), False)
        self.gives(is_cut, (SIX, ([0, 1, 2, 3, 4, 5],)), False)

    def no_cuts(self):
        """What is no CUT of SIX, with lists for tuples either."""
        parts = ((0,), (1, 2), (3,), (4, 5))
        return NO_SETS[:1] + (True, 0, 1, "", "0", {}, {0}, 1.5, (0,), (0, 1, 2), parts[1:], parts[:-1], parts[::-1], ((),) + parts,
                              parts + parts, parts + ((5,),), parts + ((6,),), ((0,), (0, 1, 2), (3,), (4, 5)), (None,) + parts,
                              ((0, 1), (2,), (3,), (4, 5)), ((0,), (1,), (2, 3), (4, 5)), ((0,), (1, 2), (3,), (5, 4)),
                              ((0,), (1, 2), (True,), (3,), (4, 5)), ((False,), (1, 2), (3,), (4, 5)), ((0,), (1, 2), "3", (4, 5)),
                              ((0,), (1, 2), ("3",), (4, 5)), ((0,), (1, 2), 3, (4, 5)), ((0,), (1, 2), (3, 4, 5), (3,)),
                              ((0, 1, 2, 3, 4),), ((0, 1, 2, 3, 4, 5, 6),), *NO_END)

    def test_no_cut_has_no_quotient(self):
        for bad in self.no_cuts() + ((), ((),)):
            self.unfit(quotient, SIX, bad)
            self.unfit(quotient, SIX, lists(bad))
        self.unfit(quotient, EMPTY, ((),))
        self.unfit(quotient, EMPTY, ((0,),))
        self.unfit(quotient, ONE, ())


class Refused(Case):

    def test_what_is_no_order(self):
        for bad in BAD_ORDERS + NO_END:
            for function in (modules, how_many_modules, strong_modules, top_cut):
                self.unfit(function, bad)
            for function in (is_module, module_around, is_cut, quotient):
                for other in ((0,), ((0,),), (), None):
                    self.unfit(function, bad, other)
            for function in (are_crossing, crossed, how_they_lie):
                self.unfit(function, bad, (0,), (0,))

    def test_what_is_no_set_of_pieces(self):
        for bad in NO_SETS:
            self.unfit(module_around, SIX, bad)
            self.unfit(module_around, SIX, lists(bad))
            self.unfit(module_around, EMPTY, bad)

    def test_what_is_no_module(self):
        for bad in NO_MODULES:
            for function in (are_crossing, crossed, how_they_lie):
                for own in (bad, lists(bad)):
                    self.unfit(function, SIX, own, (1, 2))
                    self.unfit(function, SIX, (1, 2), own)
                    self.unfit(function, SIX, own, own)
                self.unfit(function, EMPTY, bad, bad)

    def test_unfit_comes_ahead_of_cannot(self):
        self.unfit(crossed, SIX, (1, 2), (2, 1))
        self.unfit(crossed, SIX, (0, 1), (0, 1))
        self.unfit(how_they_lie, SIX, (1, 2), (1, 3))
        self.unfit(modules, (11, ((1, 0),)))


if __name__ == "__main__":
    unittest.main()
