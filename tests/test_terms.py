"""[12]: terms, or an N."""

import functools
import itertools
import math
import unittest

from eatenorders import terms
from eatenorders.terms import an_n, are_alike_terms, how_many_terms, is_n, is_term, order_of, set_of_term, size_of
from eatenorders.terms import term_of, turned_term, worth_of_term
from tests import plain
from tests.checks import BAD_ORDERS, NO_END, NO_NUMBERS, Case, deep, ended, lists, things

EXAMPLES = r"""
    >>> vee, wedge, nn = (3, ((0, 1), (0, 2))), (3, ((0, 2), (1, 2))), (4, ((0, 2), (1, 2), (1, 3)))
    >>> term_of(vee), term_of(wedge), term_of((1, ())), term_of((3, ((0, 1),))), term_of((4, ((0, 1), (0, 2), (1, 3), (2, 3))))
    (('stack', 1, ('beside', 1, 1)), ('stack', ('beside', 1, 1), 1), 1, ('beside', ('stack', 1, 1), 1), ('stack', 1, ('beside', 1, 1), 1))
    >>> an_n(nn), is_n(nn, (0, 1, 2, 3)), is_n(nn, (1, 0, 2, 3)), is_n(nn, [0, 1, 2, 3]), is_n(vee, (0, 1, 2, 3))
    ((0, 1, 2, 3), True, False, False, False)
    >>> set_of_term(term_of(vee)), worth_of_term(term_of(vee)), set_of_term(term_of(wedge)), worth_of_term(term_of(wedge))
    ((0, 2), 1, (0, 1), 2)
    >>> deep = ("stack", ("beside", 1, 1), 1, ("beside", ("stack", 1, 1), 1))
    >>> order_of(deep), size_of(deep), worth_of_term(deep), term_of(order_of(deep)) == deep
    ((6, ((0, 2), (1, 2), (2, 3), (2, 5), (3, 4))), 6, 5, True)
    >>> turned_term(deep), are_alike_terms(deep, ("stack", ("beside", 1, 1), 1, ("beside", 1, ("stack", 1, 1)))), are_alike_terms(term_of(vee), term_of(wedge))
    (('stack', ('beside', ('stack', 1, 1), 1), 1, ('beside', 1, 1)), True, False)
    >>> [is_term(own) for own in (1, deep, ("beside", 1), ("stack", ("stack", 1, 1), 1), ["beside", 1, 1], ("beside", 1, True), ("under", 1, 1))]
    [True, True, False, False, False, False, False]
    >>> [how_many_terms(own) for own in range(7)]
    [0, 1, 2, 5, 15, 48, 167]
    >>> term_of(nn)
    raises CanNot()
    >>> an_n(vee)
    raises CanNot()
    >>> size_of(("stack", 1, 0))
    raises Unfit()
"""

VEE, WEDGE, ENN, EMPTY = (3, ((0, 1), (0, 2))), (3, ((0, 2), (1, 2))), plain.ENN, (0, ())
DEEP = ("stack", ("beside", 1, 1), 1, ("beside", ("stack", 1, 1), 1))

# As many TERMS of 0, 1, 2 .. pieces as the On-Line Encyclopedia of Integer Sequences tells (A003430).
COUNTS = [0, 1, 2, 5, 15, 48, 167, 602, 2256, 8660, 33958, 135292, 546422, 2231462]

BAD_TERMS = (0, 2, -1, True, False, None, "", "1", "beside", 1.0, {}, {1}, (), [], (1,), (1, 1), (1, 1, 1), ("beside",),
             ("stack",), ("beside", 1), ("stack", 1), ("stack", ("beside", 1, 1)), ("beside", 1, ("beside", 1, 1)),
             ("stack", ("stack", 1, 1), 1), ("beside", 1, ("stack", 1, ("stack", 1, 1))), ("beside", 1, True),
             ("beside", 1, 0), ("stack", 1, 2), ("stack", 1, None), ("stack", 1, "1"), ("stack", 1, 1.0), ("stack", 1, (1,)),
             ("stack", 1, ()), ("Stack", 1, 1), ("under", 1, 1), ("", 1, 1), (None, 1, 1), (1, "stack", 1), ((), 1, 1),
             (("stack",), 1, 1), ("stack", "stack", 1), ("prime", ENN, 1, 1, 1, 1), ("prime", 1, 1), ("beside", 1, ENN),
             ("stack", 1, ("prime", ENN, 1, 1, 1, 1)), {"stack": 1}, ("stack", {1}, 1), b"stack", (b"stack", 1, 1),
             ("stack", 1, ("beside", 1, ("stack", 1, ("beside", 1, ("stack", 1))))))


def around():
    """A list of words and lists that has itself deep in it."""
    own = ["stack", 1]
    own.append(["beside", 1, own])
    return own


def twice_around():
    own = ["beside", 1]
    own += [["stack", own, own], ["stack", own, 1]]
    return own


ENDLESS = NO_END + (around(), twice_around(), ["stack", 1, deep(1, 20000)], ["stack", around(), ["beside", 1, 1]])


@functools.lru_cache(maxsize=None)
def all_terms(many, barred=None):
    """The list of all TERMS of many pieces that do not begin with the word barred."""
    if many == 1:
        return [1]
    found = []
    for word in ("beside", "stack"):
        if word != barred:
            found += [(word, first) + rest for size in range(1, many) for first in all_terms(size, word)
                      for rest in rows(many - size, word)]
    return found


@functools.lru_cache(maxsize=None)
def rows(many, word):
    """The list of the tuples of TERMS, many pieces in all, none of which begins with word."""
    if many == 0:
        return [()]
    return [(first,) + rest for size in range(1, many + 1) for first in all_terms(size, word)
            for rest in rows(many - size, word)]


def up_to(most):
    return [term for many in range(1, most + 1) for term in all_terms(many)]


def order_told(term):
    """The ORDER of term, member by member."""
    if term == 1:
        return (1, ())
    return {"beside": plain.side_by_side, "stack": plain.stacked}[term[0]](*[order_told(own) for own in term[1:]])


def turned_about(term):
    if term == 1:
        return 1
    parts = [turned_about(own) for own in term[1:]]
    return (term[0],) + tuple(parts[::-1] if term[0] == "stack" else parts)


def set_of(order):
    return plain.set_left(order, plain.whole(order))


def ladder(many):
    """A TERM of many pieces, as deep as can be."""
    term = 1
    for size in range(1, many):
        term = ("beside" if size % 2 else "stack", 1, term)
    return term


class Examples(Case):

    def test_examples(self):
        self.examples(EXAMPLES, dict(vars(terms)))


class Terms(Case):

    def test_order_and_size(self):
        for term in up_to(5):
            order = order_told(term)
            self.assertIs(is_term(term), True)
            self.assertEqual(order_of(term), order)
            self.assertEqual(size_of(term), order[0])
            self.assertEqual(term_of(order), term)

    def test_sets_and_worths(self):
        for term in up_to(5) + all_terms(6)[::7]:
            order = order_told(term)
            self.assertEqual(set_of_term(term), set_of(order))
            self.assertEqual(worth_of_term(term), plain.worth(order, plain.whole(order)))

    def test_turned(self):
        for term in up_to(5):
            self.assertEqual(turned_term(term), turned_about(term))
            self.assertEqual(turned_term(turned_term(term)), term)
            self.assertEqual(plain.form(order_of(turned_term(term))), plain.form(plain.turned(order_of(term))))

    def test_alike(self):
        known = up_to(4) + all_terms(5)[::6]
        for term, other in itertools.product(known, repeat=2):
            told = plain.form(order_told(term)) == plain.form(order_told(other))
            self.assertIs(are_alike_terms(term, other), told)

    def test_in_every_guise(self):
        for term in (1, DEEP, ladder(9), *all_terms(4)):
            order = order_told(term)
            self.gives(size_of, (term,), order[0])
            self.gives(order_of, (term,), order)
            self.gives(set_of_term, (term,), set_of(order))
            self.gives(worth_of_term, (term,), plain.worth(order, plain.whole(order)))
            self.gives(turned_term, (term,), turned_about(term))
            self.gives(are_alike_terms, (term, term), True)
            self.gives(are_alike_terms, (term, ("stack", 1, 1)), term == ("stack", 1, 1))
            self.gives(are_alike_terms, (("beside", ("stack", 1, 1), 1), term), term == ("beside", ("stack", 1, 1), 1))

    def test_is_term_whatever_thing_is(self):
        for bad in BAD_TERMS + ENDLESS:
            self.assertIs(is_term(bad), False)
            self.gives(is_term, (("beside", 1, 1),), True)
        for thing in things():
            self.gives(is_term, (thing,), repr(thing) == "1")
        for term in up_to(4):
            self.gives(is_term, (term,), True)
            if term != 1:
                self.gives(is_term, (list(term),), False)
                self.gives(is_term, (("stack" if term[0] == "beside" else "beside", 1, list(term)),), False)
                self.gives(is_term, (term + (True,),), False)
                self.gives(is_term, (term + (term,),), False)
        self.gives(is_term, (ladder(20),), True)
        self.gives(is_term, (("beside",) + (1,) * 5000,), True)
        self.gives(is_term, (("stack",) + (("beside", 1, 1),) * 3000,), True)
        self.gives(is_term, (("stack",) + (("beside", 1, 1),) * 3000 + (0,),), False)

    def test_great_ones(self):
        strewn, stalk = ("beside",) + (1,) * 60, ("stack",) + (1,) * 60
        for term, order, own in ((strewn, plain.STREWN, (1,)), (stalk, plain.STALK, tuple(range(60)))):
            self.gives(order_of, (term,), order)
            self.gives(term_of, (order,), term)
            self.gives(size_of, (term,), 60)
            self.gives(set_of_term, (term,), own)
            self.gives(turned_term, (term,), term)
        threes = ("stack",) + (("beside", 1, 1, 1),) * 20
        self.gives(set_of_term, (threes,), tuple(range(20)))
        self.gives(worth_of_term, (threes,), 20)
        stalks = ("beside",) + tuple(("stack",) + (1,) * high for high in range(2, 10)) + (1,) * 16
        self.gives(worth_of_term, (stalks,), 2 ^ 3 ^ 4 ^ 5 ^ 6 ^ 7 ^ 8 ^ 9)
        self.gives(size_of, (stalks,), 60)
        self.gives(are_alike_terms, (stalks, stalks[:1] + stalks[:0:-1]), True)
        self.gives(are_alike_terms, (stalks, strewn), False)

    def test_deep_ones(self):
        for many in (59, 60, 240):
            term = ladder(many)
            order = order_of(term)
            self.assertEqual(size_of(term), many)
            self.assertEqual(term_of(order), term)
            self.assertEqual(turned_term(turned_term(term)), term)
            self.assertIs(are_alike_terms(term, swapped(term)), True)

    def test_many_lefts_by_exclusive_or(self):
        parts = [ladder(9), DEEP, *[own for own in all_terms(4) if own[0] == "stack"]]
        whole = 0
        for own in parts:
            whole ^= plain.worth(order_told(own), plain.whole(order_told(own)))
        self.gives(worth_of_term, (("beside", *parts),), whole)
        self.gives(worth_of_term, (("stack", 1, ("beside", *parts)),), whole + 1)


def swapped(term):
    """The same with the members of each "beside" turned about."""
    row = []
    while term != 1:
        row.append(term[0])
        term = term[2]
    for word in row[::-1]:
        term = (word, term, 1) if word == "beside" else (word, 1, term)
    return term


class OrdersToTerms(Case):

    def test_a_term_exactly_without_an_n(self):
        for order in plain.small_orders() + plain.some_orders()[::4]:
            known = plain.ns(order)
            self.assertEqual(ended(an_n, (order,)), repr(known[0]) if known else "raises CanNot()")
            if known or order[0] == 0:
                self.assertEqual(ended(term_of, (order,)), "raises CanNot()")
            else:
                term = term_of(order)
                self.assertIs(is_term(term), True)
                self.assertEqual(plain.form(order_told(term)), plain.form(order))

    def test_members_beside_come_by_their_least_pieces(self):
        for order in plain.small_orders():
            if order[0] and not plain.ns(order):
                self.assertEqual(term_of(order), self.without_numbers(plain.tree(order, plain.whole(order))))

    def without_numbers(self, tree):
        return tree[:1] + tuple(self.without_numbers(own) for own in tree[1:]) if isinstance(tree, tuple) else 1

    def test_turned_orders(self):
        for order in plain.small_orders(4) + list(plain.all_orders(5))[::5]:
            if order[0] and not plain.ns(order):
                told = turned_term(term_of(order))
                self.assertIs(are_alike_terms(term_of(plain.turned(order)), told), True)

    def test_is_n(self):
        for order in plain.all_orders(4) + plain.all_orders(5)[::7]:
            known = set(plain.ns(order))
            for row in itertools.product(range(order[0] + 1), repeat=4):
                self.assertIs(is_n(order, row), row in known)

    def test_ns_in_every_guise(self):
        self.gives(an_n, (ENN,), (0, 1, 2, 3))
        self.gives(an_n, (plain.side_by_side(VEE, ENN),), (3, 4, 5, 6))
        self.refuses(an_n, (VEE,), "CanNot()")
        self.refuses(an_n, (EMPTY,), "CanNot()")
        self.refuses(term_of, (ENN,), "CanNot()")
        self.refuses(term_of, (EMPTY,), "CanNot()")
        self.gives(term_of, (VEE,), ("stack", 1, ("beside", 1, 1)))
        self.gives(term_of, ((1, ()),), 1)
        self.gives(is_n, (ENN, (0, 1, 2, 3)), True)
        self.gives(is_n, (plain.turned(ENN), (0, 1, 2, 3)), True)

    def test_least_n_of_great_orders(self):
        for order in plain.random_orders(12, 3, 12, 20) + [plain.fence(13), plain.crown(5)]:
            known = plain.ns(order)
            self.assertEqual(ended(an_n, (order,)), repr(known[0]) if known else "raises CanNot()")
        self.gives(an_n, (plain.fence(60),), (0, 1, 30, 31))
        self.refuses(an_n, (plain.STREWN,), "CanNot()")
        self.refuses(term_of, (plain.fence(60),), "CanNot()")
        self.gives(is_n, (plain.fence(60), (0, 1, 30, 31)), True)

    def test_is_n_whatever_thing_is(self):
        for thing in things():
            self.gives(is_n, (ENN, thing), isinstance(thing, tuple) and repr(thing) == "(0, 1, 2, 3)")
            self.gives(is_n, (VEE, thing), False)
            self.gives(is_n, (EMPTY, thing), False)
        for bad in ([0, 1, 2, 3], (0, 1, 2), (0, 1, 2, 3, 3), (False, True, 2, 3), (0, True, 2, 3), ("0", 1, 2, 3),
                    (0, 1, 2, 4), (0, 1, 2, -1), (0, 1, 2, 3.0), ((0,), 1, 2, 3), None, "0123", *NO_END):
            self.assertIs(is_n(ENN, bad), False)


class Counts(Case):

    def test_as_many_as_shapes(self):
        for many in range(7):
            shapes = {plain.form(order_told(term)) for term in all_terms(many)} if many else set()
            self.gives(how_many_terms, (many,), len(shapes))

    def test_as_many_as_are_known(self):
        for many, count in enumerate(COUNTS):
            self.gives(how_many_terms, (many,), count)

    def test_every_count_by_products(self):
        """The lots of those that are no "beside" are counted as a product of one series for each size."""
        most = 300
        lots, no_beside = [1] + [0] * most, [0, 1] + [0] * most
        for size in range(1, most + 1):
            if size > 1:
                # So far lots of sizes below: none of them is one of size pieces in one part.
                pairs = how_many_terms(size) - lots[size]
                no_beside[size] = pairs
            lots = self.with_lots(lots, size, no_beside[size])
            self.assertEqual(lots[size], how_many_terms(size))
        self.check_stacks(no_beside, most)

    def with_lots(self, lots, size, kinds):
        """lots with any number of parts of this size, of so many kinds, put in."""
        found = list(lots)
        for times in range(1, (len(lots) - 1) // size + 1):
            ways = math.comb(kinds + times - 1, times)
            for whole in range(times * size, len(lots)):
                found[whole] += ways * lots[whole - times * size]
        return found

    def check_stacks(self, no_beside, most):
        """A "stack" is what is none and a TERM on it: so many are no "beside" but the single piece."""
        every = [how_many_terms(many) for many in range(most + 1)]
        no_stack = [0, 1] + [every[many] - no_beside[many] for many in range(2, most + 1)]
        for many in range(2, most + 1):
            stacks = sum(no_stack[low] * every[many - low] for low in range(1, many))
            self.assertEqual(stacks, no_beside[many])

    def test_three_hundred_and_one_more(self):
        self.assertEqual(len(str(how_many_terms(300))), len(str(how_many_terms(299) * 46 // 10)))
        for many in (301, 302, 10 ** 6):
            self.refuses(how_many_terms, (many,), "TooMany()")


class Refused(Case):

    def test_what_is_no_order(self):
        for bad in BAD_ORDERS + NO_END:
            self.unfit(term_of, bad)
            self.unfit(an_n, bad)
            self.unfit(is_n, bad, (0, 1, 2, 3))
            self.unfit(is_n, bad, None)

    def test_what_is_no_term(self):
        for bad in BAD_TERMS + ENDLESS:
            for own in (bad, lists(bad)):
                for function in (size_of, order_of, set_of_term, worth_of_term, turned_term):
                    self.unfit(function, own)
                self.unfit(are_alike_terms, own, 1)
                self.unfit(are_alike_terms, 1, own)
                self.unfit(are_alike_terms, own, own)

    def test_what_is_no_number_from_0(self):
        for bad in NO_NUMBERS + (-1, -10 ** 6, *NO_END):
            self.unfit(how_many_terms, bad)


if __name__ == "__main__":
    unittest.main()
