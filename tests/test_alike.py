"""[8]: orders numbered otherwise."""

import itertools
import math
import unittest

from eatenorders import alike
from eatenorders.alike import are_alike, automorphisms, how_many_forms, how_many_numberings, is_automorphism
from eatenorders.alike import is_numbering, least_form, renumbered
from eatenorders.bites import how_many_lefts
from eatenorders.worths import set_of_worths, worth
from tests import plain
from tests.checks import BAD_ORDERS, Case, endless, lists, things

EXAMPLES = r"""
    >>> vee, claw, zig = (3, ((0, 1), (0, 2))), (4, ((0, 1), (0, 2), (0, 3))), (4, ((0, 2), (1, 2), (1, 3)))
    >>> is_numbering(vee, (0, 2, 1)), is_numbering(vee, (1, 0, 2)), is_numbering(vee, (0, 1)), how_many_numberings(vee), how_many_numberings(claw), how_many_numberings(zig)
    (True, False, False, 2, 6, 5)
    >>> renumbered(vee, (0, 2, 1)), renumbered(zig, (1, 3, 0, 2)), renumbered(zig, (1, 0, 2, 3)), least_form(zig)
    ((3, ((0, 1), (0, 2))), (4, ((0, 1), (0, 3), (2, 3))), (4, ((0, 2), (0, 3), (1, 2))), (4, ((0, 1), (0, 3), (2, 3))))
    >>> how_many_forms(zig), how_many_forms(claw), how_many_forms((4, ((0, 1), (2, 3)))), are_alike(zig, (4, ((0, 3), (1, 2), (1, 3)))), are_alike(zig, claw)
    (5, 1, 3, True, False)
    >>> automorphisms(vee), automorphisms(zig), automorphisms((4, ((0, 1), (2, 3)))), len(automorphisms(claw))
    ([(0, 1, 2), (0, 2, 1)], [(0, 1, 2, 3)], [(0, 1, 2, 3), (2, 3, 0, 1)], 6)
    >>> is_automorphism(vee, (0, 2, 1)), is_automorphism(vee, (1, 0, 2)), is_automorphism((0, ()), ()), least_form((0, ())), automorphisms((0, ()))
    (True, False, True, (0, ()), [()])
    >>> how_many_numberings((7, ())), how_many_forms((7, ()))
    (5040, 1)
    >>> renumbered(vee, (1, 0, 2))
    raises Unfit()
    >>> least_form((8, ()))
    raises TooMany()
    >>> automorphisms((7, ()))
    raises TooMany()
"""

EMPTY, VEE, CLAW = (0, ()), (3, ((0, 1), (0, 2))), (4, ((0, 1), (0, 2), (0, 3)))
ZIG, RAILS = (4, ((0, 2), (1, 2), (1, 3))), (4, ((0, 1), (2, 3)))
FEW = [EMPTY, (1, ()), (2, ()), VEE, CLAW, ZIG, RAILS, *plain.random_orders(81, 4, 5, 30)]
STALK, STREWN, SIXTY = plain.STALK, plain.STREWN, tuple(range(60))

# Nine pieces in three threes, then two CHAINS with a piece beside each: 27 times 11 times 17 NUMBERINGS.
THREES = [plain.side_by_side(plain.chain(2), (1, ()))] * 3
MORE_NUMBERINGS = plain.stacked(*THREES, plain.side_by_side(plain.chain(10), (1, ())),
                                plain.side_by_side(plain.chain(16), (1, ())))

# Three rings of five have ten automorphisms each, two loose pieces two: 2,000 together.
JUST_MOVES = plain.stacked(plain.crown(5), plain.crown(5), plain.crown(5), (2, ()))


def numbered_otherwise(order, seed):
    """order numbered by chance."""
    rng = plain.random.Random(seed)
    row = []
    while len(row) < order[0]:
        ready = [own for own in range(order[0]) if own not in row
                 and all(low in row for low, high in order[1] if high == own)]
        row.append(rng.choice(ready))
    return plain.renumbered(order, row)


def graph(many, edges):
    """The ORDER of a graph: each of its edges lies above its two ends."""
    return many + len(edges), tuple(sorted((end, many + at) for at, edge in enumerate(edges) for end in edge))


def ring_with(many, jumps):
    """The edges of a ring in which piece k is tied to the piece jumps[k] on, too."""
    edges = {tuple(sorted((at, (at + jump) % many))) for at in range(many) for jump in (1, jumps[at % len(jumps)])}
    return sorted(edges)


class Examples(Case):

    def test_examples(self):
        self.examples(EXAMPLES, dict(vars(alike)))


class Numberings(Case):

    def test_out_of_all_rows(self):
        for order in plain.small_orders(4) + list(plain.all_orders(5))[::11]:
            known = plain.numberings(order)
            for row in itertools.permutations(range(order[0])):
                self.assertIs(is_numbering(order, row), row in known)
                if row in known:
                    self.assertEqual(renumbered(order, row), plain.renumbered(order, row))
                else:
                    self.unfit(renumbered, order, row)

    def test_how_many(self):
        for order in plain.small_orders() + plain.random_orders(82, 3, 7, 25):
            self.assertEqual(how_many_numberings(order), len(plain.numberings(order)))

    def test_numbered_otherwise_lefts_worth_and_set_stay(self):
        for order in plain.small_orders(4) + plain.random_orders(83, 4, 6, 30):
            told = (how_many_lefts(order), worth(order), set_of_worths(order))
            for row in plain.numberings(order):
                other = renumbered(order, row)
                self.assertEqual((how_many_lefts(other), worth(other), set_of_worths(other)), told)

    def test_in_every_guise(self):
        for order in FEW:
            known = plain.numberings(order)
            self.gives(how_many_numberings, (order,), len(known))
            for row in known:
                self.gives(renumbered, (order, row), plain.renumbered(order, row))
                self.gives(is_numbering, (order, row), True)
                self.gives(is_numbering, (order, list(row)), False)

    def test_is_numbering_whatever_thing_is(self):
        for thing in things():
            told = repr(thing) if isinstance(thing, tuple) else ""
            self.gives(is_numbering, ((2, ()), thing), told in ("(0, 1)", "(1, 0)"))
            self.gives(is_numbering, (EMPTY, thing), told == "()")
        for bad in ((0, 1), (0, 1, 2, 3), (0, 1, 1), (0, 1, 2, 2), (0, 0, 1, 2), (0, 1, 3), (0, True, 2), (False, 1, 2),
                    (-3, 1, 2), (0, 1, -1), (0, 1, "2"), (0, 1, (2,)), (0, 1, None), (0, 1, 2.0), (2, 1, 0), [0, 1, 2], "012", None, 3, {}):
            self.gives(is_numbering, (VEE, bad), False)

    def test_chains_and_loose_pieces(self):
        for many in range(9):
            self.gives(how_many_numberings, (plain.chain(many),), 1)
            self.gives(how_many_numberings, ((many, ()),), math.factorial(many))
        self.gives(how_many_numberings, ((10, ()),), math.factorial(10))
        self.gives(how_many_numberings, (STALK,), 1)
        self.gives(is_numbering, (STALK, SIXTY), True)
        self.gives(is_numbering, (STALK, SIXTY[::-1]), False)
        self.gives(is_numbering, (STREWN, SIXTY[::-1]), True)
        self.gives(renumbered, (STREWN, SIXTY[::-1]), STREWN)
        self.gives(how_many_numberings, (plain.side_by_side(plain.chain(30), plain.chain(30)),), math.comb(60, 30))

    def test_too_many_lefts(self):
        self.assertEqual(how_many_numberings(plain.JUST_FEW), math.factorial(16) // math.factorial(4) ** 3)
        for order in plain.MANY_LEFTS:
            for function in (how_many_numberings, least_form, how_many_forms):
                self.refuses(function, (order,), "TooMany()")
            self.refuses(are_alike, (order, VEE), "TooMany()")
            self.refuses(are_alike, (VEE, order), "TooMany()")
            self.refuses(are_alike, (order, order), "TooMany()")
            self.assertEqual(renumbered(order, tuple(range(order[0]))), order)


class Forms(Case):

    def test_least_form_and_forms(self):
        for order in plain.small_orders():
            forms = {plain.renumbered(order, row) for row in plain.numberings(order)}
            self.assertEqual(least_form(order), min(forms))
            self.assertEqual(how_many_forms(order), len(forms))
            self.assertEqual(how_many_numberings(order), len(forms) * len(automorphisms(order)))

    def test_of_greater_ones(self):
        for order in plain.random_orders(84, 4, 7, 35):
            forms = {plain.renumbered(order, row) for row in plain.numberings(order)}
            self.gives(least_form, (order,), min(forms))
            self.gives(how_many_forms, (order,), len(forms))

    def test_alike_exactly_if_one_least_form(self):
        for many in range(5):
            known = {order: frozenset(plain.renumbered(order, row) for row in plain.numberings(order))
                     for order in plain.all_orders(many)}
            for order, other in itertools.product(known, known):
                self.assertIs(are_alike(order, other), other in known[order])
                self.assertIs(are_alike(order, other), least_form(order) == least_form(other))
        for order, other in itertools.permutations([EMPTY, (1, ()), (2, ()), VEE, CLAW], 2):
            self.assertIs(are_alike(order, other), False)

    def test_numbers_of_unlike_orders(self):
        for many, expected in enumerate((1, 1, 2, 5, 16, 63)):
            self.assertEqual(len({least_form(order) for order in plain.all_orders(many)}), expected)

    def test_in_every_guise(self):
        for order in FEW:
            forms = sorted({plain.renumbered(order, row) for row in plain.numberings(order)})
            self.gives(least_form, (order,), forms[0])
            self.gives(how_many_forms, (order,), len(forms))
            self.gives(are_alike, (order, forms[-1]), True)
            self.gives(are_alike, (order, (order[0] + 1, order[1])), False)

    def test_chains_and_loose_pieces(self):
        for many in range(8):
            self.gives(least_form, ((many, ()),), (many, ()))
            self.gives(how_many_forms, ((many, ()),), 1)
        self.gives(least_form, (STALK,), STALK)
        self.gives(how_many_forms, (STALK,), 1)
        self.gives(are_alike, (STALK, STALK), True)

    def test_just_5040_numberings_and_more(self):
        self.gives(least_form, ((7, ()),), (7, ()))
        just = plain.stacked(plain.chain(20), (7, ()), plain.chain(20))
        self.gives(least_form, (just,), just)
        self.gives(how_many_forms, (just,), 1)
        other = numbered_otherwise(plain.stacked(*THREES, plain.side_by_side(plain.chain(2), (1, ()))), 4)
        self.assertEqual((how_many_numberings(other), how_many_forms(other)), (81, 81))
        self.assertEqual(how_many_numberings(MORE_NUMBERINGS), 5049)
        one_more = plain.side_by_side(plain.chain(70), (1, ()))
        one_more = (142, tuple(sorted(one_more[1] + tuple((low + 71, high + 71) for low, high in one_more[1])
                                      + tuple((low, high) for low in (69, 70) for high in (71, 141)))))
        self.assertEqual(how_many_numberings(one_more), 5041)
        for order in (one_more, MORE_NUMBERINGS, (8, ()), (10, ()), plain.side_by_side(plain.chain(8), plain.chain(8))):
            self.refuses(least_form, (order,), "TooMany()")
            self.refuses(how_many_forms, (order,), "TooMany()")
            self.refuses(are_alike, (order, order), "TooMany()")
            self.refuses(are_alike, (EMPTY, order), "TooMany()")
            self.refuses(are_alike, (order, EMPTY), "TooMany()")

    def test_a_great_form(self):
        for order in (plain.stacked(*[(2, ())] * 12, plain.chain(36)), plain.side_by_side(plain.chain(58), (1, ())),
                      plain.stacked(ZIG, plain.chain(20), ZIG, (1, ()), ZIG)):
            for seed in range(3):
                other = numbered_otherwise(order, seed)
                self.assertIs(are_alike(order, other), True)
                self.assertEqual(least_form(other), least_form(order))


class Automorphisms(Case):

    def test_out_of_all_rows(self):
        for order in plain.small_orders() + plain.random_orders(85, 6, 7, 20) + [plain.crown(3)]:
            known = plain.automorphisms(order)
            self.assertEqual(automorphisms(order), sorted(known))

    def test_is_automorphism(self):
        for order in plain.small_orders(4) + list(plain.all_orders(5))[::12]:
            known = plain.automorphisms(order)
            for row in itertools.permutations(range(order[0])):
                self.assertIs(is_automorphism(order, row), row in known)

    def test_in_every_guise(self):
        for order in FEW:
            known = plain.automorphisms(order)
            self.gives(automorphisms, (order,), sorted(known))
            for row in known:
                self.gives(is_automorphism, (order, row), True)
                self.gives(is_automorphism, (order, list(row)), False)

    def test_is_automorphism_whatever_thing_is(self):
        for thing in things():
            told = repr(thing) if isinstance(thing, tuple) else ""
            self.gives(is_automorphism, ((2, ()), thing), told in ("(0, 1)", "(1, 0)"))
            self.gives(is_automorphism, (EMPTY, thing), told == "()")
        for bad in ((0, 1), (0, 1, 2, 3), (0, 1, 1), (0, 1, 2, 2), (0, 2, 1, 1), (0, 2, 2), (0, 2, 3), (0, 2, True), (False, 2, 1), (0, -1, -2),
                    (0, 2, "1"), (0, 2, (1,)), (0, 2, None), (0, 2, 1.0), (1, 0, 2), [0, 2, 1], "021", None, 3, {}):
            self.gives(is_automorphism, (VEE, bad), False)
        self.gives(is_automorphism, (STREWN, SIXTY[::-1]), True)
        self.gives(is_automorphism, (STALK, SIXTY[::-1]), False)

    def test_known_groups(self):
        frucht = graph(12, ring_with(12, (-5, -2, -4, 2, 5, -2, 2, 5, -2, -5, 4, 2)))
        petersen = graph(10, [(one, other) for one, other in itertools.combinations(range(10), 2)
                              if not set(list(itertools.combinations(range(5), 2))[one])
                              & set(list(itertools.combinations(range(5), 2))[other])])
        for order, expected in ((STALK, 1), (frucht, 1), (petersen, 120), (plain.crown(3), 6), (plain.crown(30), 60),
                                (plain.side_by_side(frucht, frucht), 2), (plain.stacked(frucht, frucht), 1),
                                (plain.stacked(*[(2, ())] * 10), 1024), (plain.side_by_side(*[plain.chain(9)] * 6), 720),
                                (plain.side_by_side(plain.crown(4), plain.crown(4)), 128),
                                (plain.stacked(frucht, *[(2, ())] * 10), 1024)):
            for seed in range(2):
                own = numbered_otherwise(order, seed)
                found = automorphisms(own)
                self.assertEqual((len(found), found), (expected, sorted(set(found))))
                self.assertTrue(all(is_automorphism(own, move) for move in found))

    def test_just_two_thousand_and_more(self):
        for seed in range(2):
            own = numbered_otherwise(JUST_MOVES, seed)
            found = automorphisms(own)
            self.assertEqual((len(found), len(set(found)), found), (2000, 2000, sorted(found)))
            self.assertTrue(all(is_automorphism(own, move) for move in found))
        fano = [(at, 7 + (at + shift) % 7) for at in range(7) for shift in (0, 1, 3)]
        above_two_thousand = plain.stacked((14, tuple(sorted(fano))), (3, ()), (2, ()))
        for order in (above_two_thousand, (7, ()), (60, ()), plain.stacked(JUST_MOVES, (2, ())),
                      plain.stacked(*[(2, ())] * 11), plain.side_by_side(*[plain.chain(2)] * 30)):
            self.refuses(automorphisms, (order,), "TooMany()")
        self.assertEqual(len(automorphisms(plain.stacked((14, tuple(sorted(fano))), (3, ())))), 1008)

    def test_numberings_are_forms_times_automorphisms(self):
        for order in plain.random_orders(86, 6, 7, 40):
            self.assertEqual(how_many_numberings(order), how_many_forms(order) * len(automorphisms(order)))


class Refused(Case):

    def test_what_is_no_order(self):
        for bad in BAD_ORDERS:
            for function in (how_many_numberings, least_form, how_many_forms, automorphisms):
                self.unfit(function, bad)
            self.unfit(is_numbering, bad, ())
            self.unfit(is_automorphism, bad, None)
            self.unfit(renumbered, bad, ())
            self.unfit(renumbered, bad, None)
            self.unfit(are_alike, bad, VEE)
            self.unfit(are_alike, VEE, bad)
            self.unfit(are_alike, bad, bad)

    def test_unfit_comes_ahead_of_too_many(self):
        for bad in BAD_ORDERS:
            self.unfit(are_alike, plain.ELEVEN, bad)
            self.unfit(are_alike, bad, plain.ELEVEN)
            self.unfit(are_alike, (8, ()), bad)

    def test_what_is_no_numbering(self):
        for bad in (None, "", "012", 0, 3, True, {}, {0, 1, 2}, 1.5, (), (0, 1), (0, 1, 2, 3), (0, 1, 1), (0, 1, 3),
                    (0, 1, 2, 2), (0, 0, 1, 2), endless(0), endless(0, 1, 2),
                    (-3, 1, 2), (0, True, 2), (False, 1, 2), (0, 1, "2"), (0, 1, None), (0, 1, (2,)), (1, 0, 2), (2, 1, 0),
                    (0, 1, 2.0)):
            self.unfit(renumbered, VEE, bad)
            self.unfit(renumbered, lists(VEE), lists(bad))


if __name__ == "__main__":
    unittest.main()
