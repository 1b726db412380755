"""[17]: papers of won and lost ones."""

import itertools
import random
import unittest

from eatenorders import papers
from eatenorders.bites import bitten
from eatenorders.papers import answers, are_replies, is_answers, is_paper, least_answers, needless, paper_of, unanswered
from tests import plain
from tests.checks import BAD_ORDERS, NO_END, NO_LEFTS, Case, ended, lists, things

EXAMPLES = r"""
    >>> two, vee, en = (2, ()), (3, ((0, 1), (0, 2))), (4, ((0, 2), (1, 2), (1, 3)))
    >>> answers(two, (0, 1)), answers(two, ()), paper_of(vee, (0, 1, 2)), paper_of(vee, (0, 1)), paper_of(two, (0, 1))
    ((((0,), 0), ((1,), 1)), (), (0, ()), (0, ()), (None, (((0,), 0), ((1,), 1))))
    >>> told = answers(en, (0, 1, 2, 3))
    >>> told, told == least_answers(en, (0, 1, 2, 3)), paper_of(en, (1, 3))
    ((((0,), 0), ((0, 1, 2), 2), ((0, 1, 3), 3), ((1,), 1), ((1, 3), 1)), True, (1, ()))
    >>> [is_answers(en, (0, 1, 2, 3), own) for own in (told, told[1:], told + (((2,), 2),), told[::-1], list(told), ())], is_answers(en, (0, 1), told[:1] + told[3:4])
    ([True, False, False, False, False, False], True)
    >>> [is_paper(vee, (0, 1, 2), own) for own in ((0, ()), (1, ()), (None, ()), [0, ()], 0)], is_paper(en, (0, 1, 2, 3), (None, told))
    ([True, False, False, False, False], True)
    >>> unanswered(en, (0, 1, 2, 3), told[:2]), unanswered(vee, (0, 1, 2), ()), needless(en, (0, 1), told), are_replies(en, told), are_replies(en, (((2,), 2),))
    (((0, 1, 3), (1,), (1, 3)), ((), (0, 1), (0, 2)), ((0, 1, 2), (0, 1, 3), (1, 3)), True, False)
    >>> answers(vee, (0, 1, 2))
    raises CanNot()
    >>> answers(vee, (1, 2))
    raises Unfit()
"""

EMPTY, ONE, TWO, VEE, EN = (0, ()), (1, ()), (2, ()), (3, ((0, 1), (0, 2))), plain.ENN
FEW = [EMPTY, ONE, TWO, VEE, EN, plain.chain(3), (4, ((0, 1), (0, 2), (1, 3), (2, 3)))]
ALL = (0, 1, 2, 3)

# ANSWERS of EN as a whole.
TOLD = (((0,), 0), ((0, 1, 2), 2), ((0, 1, 3), 3), ((1,), 1), ((1, 3), 1))

# No REPLIES of EN.
NO_REPLIES = (None, True, 0, "", "0", {}, {0}, 1.5, (0,), ((),), (((0,),),), (((0,), 0, 0),), ((0,), 0), (((0,), 1),), ((0, 0),),
              (((), 0),), (((), None),), (((2,), 2),), (((0, 3), 0),), (((1, 0), 0),), (((0, 0), 0),), (((4,), 4),), (((0,), -1),),
              (((0,), False),), (((0,), True),), (((0,), None),), (((0,), "0"),), (((0,), 0.0),), (((0,), (0,)),), (((False,), 0),),
              (("0", 0),), (({0}, 0),), ((None, 0),), (((0,), 0), ((0,), 0)), (((0, 1), 0), ((0, 1), 1)), (((1,), 1), ((0,), 0)),
              TOLD[::-1], TOLD + TOLD, TOLD + ((),), TOLD + (None,), (0,) + TOLD, TOLD[1:] + TOLD[:1], {((0,), 0): 1}, *NO_END)


def lost(order, left):
    return plain.worth(order, left) == 0


def least_answers_told(order, left):
    """The ANSWERS with the least pieces, by going on from what is come to."""
    named, grown = None, {}
    while named != grown:
        named = grown
        grown = {come: min(piece for piece in come if lost(order, plain.bitten(order, come, piece)))
                 for come in plain.come_to(order, left, named)}
    return tuple(sorted(named.items()))


def some_replies(order, rng):
    """Some REPLIES of order, whatever they are worth."""
    return tuple((left, rng.choice(left)) for left in plain.lefts(order) if left and rng.randrange(3))


class Examples(Case):

    def test_examples(self):
        self.examples(EXAMPLES, dict(vars(papers)))


class Answers(Case):

    def test_all_replies_of_small_orders(self):
        for order in plain.small_orders(3):
            for left in plain.lefts(order):
                known = [pairs for pairs in plain.all_replies(order) if plain.are_answers(order, left, pairs)]
                self.assertIs(bool(known), lost(order, left))
                for pairs in plain.all_replies(order):
                    self.assertIs(is_answers(order, left, pairs), pairs in known)
                self.check(order, left)

    def check(self, order, left):
        """answers, least_answers and paper_of give what they should."""
        if lost(order, left):
            told = answers(order, left)
            self.assertTrue(plain.are_answers(order, left, told))
            self.assertEqual(told, tuple(sorted(told)))
            self.assertEqual(least_answers(order, left), least_answers_told(order, left))
            self.assertIs(is_answers(order, left, told), True)
            self.assertEqual(paper_of(order, left)[0], None)
            self.assertTrue(plain.are_answers(order, left, paper_of(order, left)[1]))
        else:
            self.assertEqual(ended(answers, (order, left)), "raises CanNot()")
            self.assertEqual(ended(least_answers, (order, left)), "raises CanNot()")
            bite, pairs = paper_of(order, left)
            self.assertIn(bite, left)
            self.assertTrue(plain.are_answers(order, plain.bitten(order, left, bite), pairs))
        self.assertIs(is_paper(order, left, paper_of(order, left)), True)

    def test_all_lefts_of_greater_orders(self):
        for order in plain.small_orders()[12:] + plain.some_orders()[:6]:
            for left in plain.lefts(order)[::-4]:
                self.check(order, left)

    def test_some_replies(self):
        rng = random.Random(17)
        for order in list(plain.all_orders(4)) + list(plain.all_orders(5))[::20]:
            for left in plain.lefts(order)[::3]:
                for pairs in (some_replies(order, rng), some_replies(order, rng), ()):
                    self.assertIs(is_answers(order, left, pairs), plain.are_answers(order, left, pairs))
                if lost(order, left):
                    self.check_changed(order, left, answers(order, left), rng)

    def check_changed(self, order, left, told, rng):
        """ANSWERS with a pair less, or more, or another piece, are maybe none."""
        for at, (own, piece) in enumerate(told):
            others = [(own, other) for other in own]
            for pairs in (told[:at] + told[at + 1:], told[:at] + (rng.choice(others),) + told[at + 1:]):
                self.assertIs(is_answers(order, left, pairs), plain.are_answers(order, left, pairs))
        for own in plain.lefts(order)[1:]:
            if own not in dict(told):
                pairs = tuple(sorted(told + ((own, own[0]),)))
                self.assertIs(is_answers(order, left, pairs), plain.are_answers(order, left, pairs))
                self.assertFalse(plain.are_answers(order, left, pairs))

    def test_in_every_guise(self):
        for order in FEW:
            for left in plain.lefts(order):
                if lost(order, left):
                    self.gives(least_answers, (order, left), least_answers_told(order, left))
                    self.in_every_guise(answers, (order, left), repr(answers(order, left)))
                    self.gives(is_answers, (order, left, answers(order, left)), True)
                else:
                    self.refuses(answers, (order, left), "CanNot()")
                    self.refuses(least_answers, (order, left), "CanNot()")
                    self.gives(is_answers, (order, left, ()), False)
                self.in_every_guise(paper_of, (order, left), repr(paper_of(order, left)))
                self.gives(is_paper, (order, left, paper_of(order, left)), True)
        self.gives(answers, (EMPTY, ()), ())
        self.gives(answers, (EN, ()), ())
        self.gives(paper_of, (EN, ()), (None, ()))
        self.gives(least_answers, (EN, ALL), TOLD)

    def test_is_answers_whatever_thing_is(self):
        for bad in NO_REPLIES:
            self.assertIs(is_answers(EN, ALL, bad), False)
            self.assertIs(is_answers(EN, (), bad), False)
        for thing in things():
            told = repr(thing)
            self.gives(is_answers, (EN, ALL, thing), False)
            self.gives(is_answers, (EN, (), thing), told == "()")
            self.gives(is_answers, (EN, (), (thing,)), False)
            self.gives(is_answers, (TWO, (0, 1), (((0,), 0), ((1,), thing))), told == "1")
            self.gives(is_answers, (TWO, (0, 1), ((thing, 0), ((1,), 1))), told == "(0,)")
        for bad in (list(TOLD), TOLD[:-1] + ([(1, 3), 1],), TOLD[:-1] + (([1, 3], 1),), TOLD[:-1] + (((1, 3), True),)):
            self.gives(is_answers, (EN, ALL, bad), False)
        self.gives(is_answers, (EN, ALL, TOLD), True)


class Papers(Case):

    def test_none_or_a_piece_never_both(self):
        for order in plain.small_orders(3):
            for left in plain.lefts(order):
                for pairs in plain.all_replies(order):
                    self.check(order, left, pairs)

    def check(self, order, left, pairs):
        self.assertIs(is_paper(order, left, (None, pairs)), plain.are_answers(order, left, pairs))
        for piece in range(-1, order[0] + 1):
            told = piece in left and plain.are_answers(order, plain.bitten(order, left, piece), pairs)
            self.assertIs(is_paper(order, left, (piece, pairs)), told)
            self.assertFalse(told and lost(order, left))

    def test_is_paper_whatever_thing_is(self):
        for thing in things():
            told = repr(thing)
            self.gives(is_paper, (VEE, (0, 1, 2), thing), told == "(0, ())")
            self.gives(is_paper, (VEE, (0, 1, 2), (thing, ())), told == "0")
            self.gives(is_paper, (VEE, (0, 1, 2), (0, thing)), told == "()")
            self.gives(is_paper, (VEE, (), (thing, ())), told == "None")
            self.gives(is_paper, (VEE, (), (None, thing)), told == "()")
        for bad in (None, True, 0, "", (), (None,), (None, TOLD, ()), [None, TOLD], (None, list(TOLD)), (False, TOLD), (0, TOLD),
                    ("", TOLD), (None, None), ((), TOLD), {None: TOLD}, *NO_END):
            self.assertIs(is_paper(EN, ALL, bad), False)
        for bad in NO_REPLIES:
            self.assertIs(is_paper(EN, ALL, (None, bad)), False)
            self.assertIs(is_paper(EN, (0,), (0, bad)), False)
        for bad in (False, "0", 0.0, None, 1, -1, (0,)):
            self.assertIs(is_paper(EN, (0,), (bad, ())), False)
        self.gives(is_paper, (EN, (0,), (0, ())), True)


class Faults(Case):

    def test_unanswered_and_needless(self):
        rng = random.Random(23)
        for order in plain.small_orders(3):
            for left, pairs in itertools.product(plain.lefts(order), plain.all_replies(order)):
                self.check(order, left, pairs)
        for order in list(plain.all_orders(4)) + list(plain.all_orders(5))[::12] + plain.some_orders()[:4]:
            for left in plain.lefts(order)[::-5]:
                self.check(order, left, some_replies(order, rng))

    def check(self, order, left, pairs):
        named = dict(pairs)
        come = plain.come_to(order, left, named)
        self.assertEqual(unanswered(order, left, pairs), tuple(sorted(come - set(named))))
        self.assertEqual(needless(order, left, pairs), tuple(sorted(set(named) - come)))

    def test_in_every_guise(self):
        for left in plain.lefts(EN):
            for pairs in ((), TOLD, TOLD[:2], TOLD[2:], (((0,), 0), (ALL, 3))):
                named = dict(pairs)
                come = plain.come_to(EN, left, named)
                self.gives(unanswered, (EN, left, pairs), tuple(sorted(come - set(named))))
                self.gives(needless, (EN, left, pairs), tuple(sorted(set(named) - come)))
                self.gives(are_replies, (EN, pairs), True)
        self.gives(unanswered, (EMPTY, (), ()), ())
        self.gives(needless, (EMPTY, (), ()), ())
        self.gives(unanswered, (ONE, (0,), ()), ((),))

    def test_are_replies_whatever_thing_is(self):
        for bad in NO_REPLIES:
            self.assertIs(are_replies(EN, bad), False)
        for order in plain.small_orders(3):
            for pairs in plain.all_replies(order):
                self.assertIs(are_replies(order, pairs), True)
                self.assertIs(are_replies(order, pairs[::-1]), len(pairs) < 2)
                self.assertIs(are_replies(order, list(pairs)), False)
        for thing in things():
            self.gives(are_replies, (EN, thing), repr(thing) == "()")
            self.gives(are_replies, (EN, (thing,)), False)
            self.gives(are_replies, (EN, (((0,), thing),)), repr(thing) == "0")
        for bad in ((((0,), 0), ((0, 1), True)), (((0,), 0), ([0, 1], 1)), (((0,), 0), [(0, 1), 1])):
            self.gives(are_replies, (EN, bad), False)
        self.gives(are_replies, (EN, (((0,), 0), ((0, 1), 1))), True)

    def test_who_answers_takes_the_last_piece_in_all_plays(self):
        for order in plain.small_orders() + plain.some_orders()[:3]:
            for left in plain.lefts(order)[::-3]:
                if lost(order, left):
                    self.play(order, left, dict(answers(order, left)))

    def play(self, order, left, named):
        """Whatever who begins bites, there is an answer, and it leaves what is lost, at last ()."""
        for piece in left:
            come = plain.bitten(order, left, piece)
            self.assertIn(named[come], come)
            behind = plain.bitten(order, come, named[come])
            self.assertTrue(lost(order, behind))
            self.play(order, behind, named)

    def test_who_begins_can_take_the_last_piece_if_it_is_unanswered(self):
        rng = random.Random(29)
        for order in plain.small_orders(4):
            for pairs in ((), some_replies(order, rng), some_replies(order, rng)):
                told = () in unanswered(order, plain.whole(order), pairs)
                self.assertIs(can_take_the_last(order, plain.whole(order), dict(pairs)), told)


def can_take_the_last(order, left, named):
    """Whether some play against such replies ends with a BITE of who begins."""
    for come in {plain.bitten(order, left, piece) for piece in left}:
        if come == () or come in named and can_take_the_last(order, plain.bitten(order, come, named[come]), named):
            return True
    return False


class Bounds(Case):

    def test_just_two_thousand_lefts(self):
        order = plain.JUST_FEW
        whole = plain.whole(order)
        loose = whole[-2:]
        self.gives(answers, (order, loose), (((loose[0],), loose[0]), ((loose[1],), loose[1])))
        paper = paper_of(order, whole)
        self.assertIs(is_paper(order, whole, paper), True)
        behind = bitten(order, whole, paper[0])
        self.assertIs(is_answers(order, behind, paper[1]), True)
        self.assertEqual((unanswered(order, behind, paper[1]), needless(order, behind, paper[1])), ((), ()))
        self.assertIs(is_answers(order, behind, paper[1][1:]), False)
        self.assertIs(are_replies(order, paper[1]), True)

    def test_sixty_pieces(self):
        stalk, whole = plain.STALK, tuple(range(60))
        self.gives(paper_of, (stalk, whole), (0, ()))
        self.refuses(answers, (stalk, whole), "CanNot()")
        self.assertEqual(len(unanswered(stalk, whole, ())), 60)
        both = plain.side_by_side(plain.chain(30), plain.chain(30))
        told = answers(both, whole)
        self.assertIs(is_answers(both, whole, told), True)
        # Each two unlike heights are come to, and answered by making them like.
        self.assertEqual(len(told), 31 * 30)

    def test_more_lefts(self):
        for order in plain.MANY_LEFTS:
            for left in ((), (0,), plain.whole(order)):
                for function in (answers, least_answers, paper_of):
                    self.refuses(function, (order, left), "TooMany()")
                for thing in (None, (), (None, ()), (0, ()), TOLD):
                    self.refuses(is_answers, (order, left, thing), "TooMany()")
                    self.refuses(is_paper, (order, left, thing), "TooMany()")
                for function in (unanswered, needless):
                    self.refuses(function, (order, left, ()), "TooMany()")
                    self.refuses(function, (order, left, (((0,), 0),)), "TooMany()")
            for thing in (None, (), 0, (((0,), 0),)):
                self.refuses(are_replies, (order, thing), "TooMany()")


class Refused(Case):

    def test_what_is_no_order(self):
        for bad in BAD_ORDERS + NO_END:
            for left in ((), (1,), None):
                for function in (answers, least_answers, paper_of):
                    self.unfit(function, bad, left)
                for function in (is_answers, is_paper, unanswered, needless):
                    self.unfit(function, bad, left, ())
                    self.unfit(function, bad, left, None)
            self.unfit(are_replies, bad, ())
            self.unfit(are_replies, bad, None)

    def test_what_is_no_left(self):
        for bad in NO_LEFTS:
            for own in (bad, lists(bad)):
                self.with_left(EN, own)
                self.with_left(plain.stacked(EN, plain.ELEVEN), own)

    def with_left(self, order, left):
        for function in (answers, least_answers, paper_of):
            self.unfit(function, order, left)
        for function in (is_answers, is_paper, unanswered, needless):
            for other in ((), None, (None, ())):
                self.unfit(function, order, left, other)

    def test_what_are_no_replies(self):
        for bad in NO_REPLIES:
            for own in (bad, lists(bad)):
                for order, left in ((EN, ALL), (EN, ()), (plain.stacked(EN, plain.ELEVEN), ALL)):
                    self.unfit(unanswered, order, left, own)
                    self.unfit(needless, order, left, own)

    def test_unfit_comes_ahead_of_too_many_and_cannot(self):
        for order in plain.MANY_LEFTS:
            for bad in ((order[0],), (1, 0), None):
                self.with_left(order, bad)
            for bad in (None, (((), 0),), (((0,), 1),), (0,)):
                self.unfit(unanswered, order, (), bad)
                self.unfit(needless, order, (), bad)
        self.unfit(answers, VEE, (1, 2))
        self.unfit(least_answers, VEE, (2, 0))


if __name__ == "__main__":
    unittest.main()
