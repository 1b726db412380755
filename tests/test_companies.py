"""[15]: companies."""

import itertools
import unittest

from eatenorders import companies as companies_file
from eatenorders.companies import companies, inside, is_company, nested, places_put, put_in, taken_out
from tests import plain
from tests.checks import BAD_ORDERS, NO_END, Case, deep, endless, lists, things

EXAMPLES = r"""
    >>> two, duo, vee, three = (2, ((0, 1),)), (2, ()), (3, ((0, 1), (0, 2))), (3, ((0, 1), (1, 2)))
    >>> middle = (three, 1)
    >>> put_in(middle, duo), put_in(middle, (0, ())), put_in((vee, 0), duo), put_in((duo, 0), two)
    ((4, ((0, 1), (0, 2), (1, 3), (2, 3))), (2, ((0, 1),)), (4, ((0, 2), (0, 3), (1, 2), (1, 3))), (3, ((0, 1),)))
    >>> places_put(middle, duo), put_in(middle, (1, ())) == three, [is_company(own) for own in (middle, (three, 3), (three, True), [three, 1], ((0, ()), 0), (duo, 1))]
    (((0, 3), (1, 2)), True, [True, False, False, False, False, True])
    >>> both = nested(middle, (duo, 1))
    >>> both, put_in(both, two) == put_in(middle, put_in((duo, 1), two))
    (((4, ((0, 1), (0, 2), (1, 3), (2, 3))), 2), True)
    >>> square = both[0]
    >>> taken_out(square, (1, 2)), inside(square, (1, 2)), taken_out(square, (3,)) == (square, 3), taken_out(square, (0, 1, 2, 3))
    (((3, ((0, 1), (1, 2))), 1), (2, ()), True, ((1, ()), 0))
    >>> pairs = (4, ((0, 2), (1, 3)))
    >>> taken_out(pairs, (0, 2)), inside(pairs, (0, 2)), put_in(taken_out(pairs, (0, 2)), inside(pairs, (0, 2)))
    (((3, ((1, 2),)), 0), (2, ((0, 1),)), (4, ((0, 1), (2, 3))))
    >>> companies(two), len(companies(square)), companies((0, ()))
    ([((0,), ((2, ((0, 1),)), 0)), ((0, 1), ((1, ()), 0)), ((1,), ((2, ((0, 1),)), 1))], 8, [])
    >>> taken_out(square, (0, 1))
    raises Unfit()
    >>> put_in((three, 3), duo)
    raises Unfit()
"""

EMPTY, ONE, TWO, DUO, VEE = (0, ()), (1, ()), (2, ((0, 1),)), (2, ()), (3, ((0, 1), (0, 2)))
SQUARE, EN = (4, ((0, 1), (0, 2), (1, 3), (2, 3))), plain.ENN
SMALL = plain.small_orders(3) + [SQUARE, EN, (4, ((0, 2), (1, 3)))]
OTHERS = list(plain.all_orders(4))[::3] + plain.random_orders(15, 4, 5, 40)

NO_HOLES = (None, True, False, "0", "", 0.0, (), (0,), [0], {0}, -1, -3, 3, 4, 10 ** 6)

# No COMPANIES: no pairs, no ORDERS, no holes.
BAD_COMPANIES = tuple((VEE, hole) for hole in NO_HOLES) + tuple((bad, 0) for bad in BAD_ORDERS) + NO_END + (
    None, True, 0, 3, "", "ab", {}, {0, 1}, 1.5, (), [], VEE, (VEE,), (VEE, 0, 0), (0, VEE), (EMPTY, 0), (EMPTY, -1), (ONE, 1),
    ((VEE, 0), 0), [VEE, True], {VEE: 0}, (deep(0, 20000), 0), (VEE, deep(0, 20000)), ([3, [[0, endless()]]], 0))

# No MODULES of SQUARE.
NO_MODULES = (None, True, 0, "", "0", {}, {0}, 1.5, (), (0, 0), (2, 1), (4,), (0, 4), (-1,), (True,), (1, True), (None,), ("0",),
              (1.0,), ((1,),), ((),), (0, 1), (0, 2), (1, 3), (0, 3), (0, 1, 3), *NO_END)


def all_companies(most):
    return [(order, hole) for order in plain.small_orders(most) for hole in range(order[0])]


def places(company, order):
    (many, _), hole = company
    names = list(range(hole)) + ["inner"] * order[0] + list(range(hole + 1, many))
    return (tuple(names.index(piece) for piece in range(many) if piece != hole),
            tuple(at for at, name in enumerate(names) if name == "inner"))


def taken(order, module):
    """The COMPANY of the pieces that are none of module and its least one."""
    kept = [piece for piece in range(order[0]) if piece not in module[1:]]
    return plain.part(order, kept), kept.index(module[0])


class Examples(Case):

    def test_examples(self):
        self.examples(EXAMPLES, dict(vars(companies_file)))


class PutIn(Case):

    def test_beside_the_words(self):
        for company in all_companies(4):
            for order in SMALL:
                self.assertEqual(put_in(company, order), plain.put_in(company, order))
                self.assertEqual(places_put(company, order), places(company, order))
        for order, hole in itertools.product(plain.all_orders(5)[::8], range(5)):
            for other in SMALL[::2] + OTHERS[::4]:
                self.assertEqual(put_in((order, hole), other), plain.put_in((order, hole), other))

    def test_the_pieces_lie_as_they_lay(self):
        for company, order in itertools.product(all_companies(3), SMALL):
            whole = put_in(company, order)
            outer, inner = places_put(company, order)
            self.assertEqual(sorted(outer + inner), list(range(whole[0])))
            self.assertEqual(plain.part(whole, inner), order)
            kept = [piece for piece in range(company[0][0]) if piece != company[1]]
            self.assertEqual(plain.part(whole, outer), plain.part(company[0], kept))
            for at, piece in enumerate(kept):
                for own in inner:
                    self.assertEqual(plain.lies(whole, outer[at], own), plain.lies(company[0], piece, company[1]))

    def test_one_piece_and_none(self):
        for company in all_companies(4):
            self.assertEqual(put_in(company, ONE), company[0])
            kept = [piece for piece in range(company[0][0]) if piece != company[1]]
            self.assertEqual(put_in(company, EMPTY), plain.part(company[0], kept))
            self.assertEqual(places_put(company, EMPTY)[1], ())
        for order in SMALL + OTHERS:
            self.assertEqual(put_in((ONE, 0), order), order)

    def test_nested(self):
        for company, other in itertools.product(all_companies(3), repeat=2):
            both = nested(company, other)
            hole = places(company, other[0])[1][other[1]]
            self.assertEqual(both, (plain.put_in(company, other[0]), hole))
            self.assertIs(is_company(both), True)
            for order in SMALL[::2]:
                self.assertEqual(put_in(both, order), put_in(company, put_in(other, order)))

    def test_in_every_guise(self):
        for company in ((TWO, 0), (TWO, 1), (VEE, 0), (SQUARE, 2), (ONE, 0), (EN, 1)):
            self.gives(is_company, (company,), True)
            for order in (EMPTY, ONE, DUO, VEE, EN):
                self.gives(put_in, (company, order), plain.put_in(company, order))
                self.gives(places_put, (company, order), places(company, order))
            for other in ((ONE, 0), (VEE, 1), (EN, 3)):
                hole = places(company, other[0])[1][other[1]]
                self.gives(nested, (company, other), (plain.put_in(company, other[0]), hole))

    def test_great_ones(self):
        stalk, strewn = plain.STALK, plain.STREWN
        self.gives(put_in, ((stalk, 30), stalk), plain.chain(119))
        self.gives(put_in, ((strewn, 30), strewn), (119, ()))
        self.gives(put_in, ((stalk, 30), EMPTY), plain.chain(59))
        self.gives(put_in, ((stalk, 59), strewn), (119, tuple((low, low + 1) for low in range(58))
                                                   + tuple((58, high) for high in range(59, 119))))
        self.gives(places_put, ((stalk, 59), strewn), (tuple(range(59)), tuple(range(59, 119))))
        self.gives(nested, ((stalk, 30), (stalk, 7)), (plain.chain(119), 37))
        again = put_in(nested((stalk, 30), (stalk, 7)), stalk)
        self.assertEqual(again, plain.chain(178))

    def test_is_company_whatever_thing_is(self):
        for bad in BAD_COMPANIES:
            self.assertIs(is_company(bad), False)
        for thing in things():
            self.gives(is_company, (thing,), False)
            self.gives(is_company, ((thing, 0),), False)
            self.gives(is_company, ((VEE, thing),), repr(thing) in ("0", "1", "2"))
        for company in all_companies(3):
            self.gives(is_company, (company,), True)
            self.gives(is_company, (list(company),), False)
            self.gives(is_company, ((list(company[0]), company[1]),), False)
            if company[0][1]:
                self.gives(is_company, (((company[0][0], list(company[0][1])), company[1]),), False)
        self.gives(is_company, (((10 ** 40, ()), 10 ** 39),), True)
        self.gives(is_company, ((plain.chain(300), 299),), True)
        self.gives(is_company, ((plain.chain(300), 300),), False)


class TakenOut(Case):

    def test_beside_the_words(self):
        for order in plain.small_orders() + plain.some_orders()[:8]:
            known = [(module, taken(order, module)) for module in plain.modules(order)]
            for module, company in known:
                self.assertEqual(taken_out(order, module), company)
                self.assertEqual(inside(order, module), plain.part(order, module))
            self.assertEqual(companies(order), known)

    def test_inside_put_into_taken_out(self):
        for order in plain.small_orders():
            for module in plain.modules(order):
                whole = put_in(taken_out(order, module), inside(order, module))
                self.assertEqual(plain.form(whole), plain.form(order))
                if module[-1] - module[0] == len(module) - 1:
                    self.assertEqual(whole, order)
            for piece in range(order[0]):
                self.assertEqual(taken_out(order, (piece,)), (order, piece))
            if order[0]:
                self.assertEqual(taken_out(order, plain.whole(order)), (ONE, 0))
                self.assertEqual(inside(order, plain.whole(order)), order)

    def test_in_every_guise(self):
        for order in (EMPTY, ONE, DUO, VEE, SQUARE, EN, (4, ((0, 2), (1, 3)))):
            self.gives(companies, (order,), [(own, taken(order, own)) for own in plain.modules(order)])
            for module in plain.modules(order):
                self.gives(taken_out, (order, module), taken(order, module))
                self.gives(inside, (order, module), plain.part(order, module))

    def test_ten_and_eleven_pieces(self):
        known = companies((10, ()))
        self.assertEqual((len(known), known[:2]), (1023, [((0,), ((10, ()), 0)), ((0, 1), ((9, ()), 0))]))
        self.assertEqual(companies(plain.chain(10)), [(own, (plain.chain(11 - len(own)), own[0]))
                                                      for own in plain.modules(plain.chain(10))])
        for order in ((11, ()), plain.chain(11), plain.fence(11), plain.STREWN):
            self.refuses(companies, (order,), "TooMany()")

    def test_great_ones(self):
        self.gives(taken_out, (plain.STREWN, tuple(range(5, 60, 5))), ((50, ()), 5))
        self.gives(inside, (plain.STREWN, tuple(range(5, 60, 5))), (11, ()))
        self.gives(taken_out, (plain.STALK, tuple(range(5, 50))), (plain.chain(16), 5))
        self.gives(inside, (plain.fence(60), tuple(range(60))), plain.fence(60))


class Games(Case):

    def test_a_bite_in_what_was_put_in_takes_all_above_the_hole(self):
        for company, order in itertools.product(all_companies(3), SMALL):
            whole = put_in(company, order)
            outer, inner = places_put(company, order)
            kept = [piece for piece in range(company[0][0]) if piece != company[1]]
            for piece in inner:
                left = plain.bitten(whole, plain.whole(whole), piece)
                gone = [outer[at] for at, own in enumerate(kept) if plain.lies(company[0], own, company[1]) == "above"]
                self.assertFalse(set(left) & set(gone))

    def test_worths_of_like_sets(self):
        """Orders of one SET leave a company one WORTH: [1]."""
        known = {}
        for order in plain.small_orders(4):
            known.setdefault(plain.set_left(order, plain.whole(order)), []).append(order)
        for company in all_companies(3):
            for same in known.values():
                wholes = [put_in(company, order) for order in same[::3]]
                self.assertEqual(len({plain.worth(own, plain.whole(own)) for own in wholes}), 1)


class Refused(Case):

    def test_what_is_no_company(self):
        for bad in BAD_COMPANIES:
            for own in (bad, lists(bad)):
                for other in (VEE, None, EMPTY):
                    self.unfit(put_in, own, other)
                    self.unfit(places_put, own, other)
                for other in ((VEE, 0), None, own):
                    self.unfit(nested, own, other)
                    self.unfit(nested, other, own)

    def test_what_is_no_order(self):
        for bad in BAD_ORDERS + NO_END:
            for company in ((VEE, 0), (VEE, 3), None):
                self.unfit(put_in, company, bad)
                self.unfit(places_put, company, bad)
            self.unfit(companies, bad)
            for module in ((0,), (), None):
                self.unfit(taken_out, bad, module)
                self.unfit(inside, bad, module)

    def test_what_is_no_module(self):
        for bad in NO_MODULES:
            for own in (bad, lists(bad)):
                self.unfit(taken_out, SQUARE, own)
                self.unfit(inside, SQUARE, own)
            self.unfit(taken_out, EMPTY, bad)
            self.unfit(inside, EMPTY, bad)

    def test_unfit_comes_ahead_of_too_many(self):
        self.unfit(companies, (11, ((1, 0),)))
        self.unfit(companies, (60, ((0, 60),)))


if __name__ == "__main__":
    unittest.main()
