"""[25]: one judge."""

import itertools
import random
import unittest

from eatenorders import judge
from eatenorders.judge import first_fallen, is_demand, is_paper_against, is_reason_for, is_so, paper_against, reason_for
from tests import plain
from tests.checks import BAD_ORDERS, NO_END, Case, lists, things

EXAMPLES = r"""
    >>> two, vee, en = (2, ()), (3, ((0, 1), (0, 2))), (4, ((0, 2), (1, 2), (1, 3)))
    >>> is_so(("won", vee, (0, 1, 2))), reason_for(("won", vee, (0, 1, 2))), is_so(("won", two, (0, 1))), paper_against(("won", two, (0, 1)))
    (True, (0, ()), False, (((0,), 0), ((1,), 1)))
    >>> is_so(("worth", en, (0, 1, 2, 3), 1)), paper_against(("worth", en, (0, 1, 2, 3), 1)), is_reason_for(("worth", vee, (0, 1), 2), (0, 1))
    (False, 0, True)
    >>> is_so(("same", two, (0, ()))), is_paper_against(("same", two, (0, ())), (1, 2, 1)), reason_for(("same", vee, vee))
    (False, True, (0, 2))
    >>> reason_for(("module", vee, (1, 2))), paper_against(("module", en, (0, 1)))
    ((((2, ((0, 1),)), 1), (2, ())), (0, 1, 3))
    >>> reason_for(("term", vee)), paper_against(("term", en)), is_demand(("worth", two, (0, 1), -1)), first_fallen((("won", vee, (0,)), ("term", en)))
    (('stack', 1, ('beside', 1, 1)), (0, 1, 2, 3), False, 1)
"""

EMPTY, ONE, TWO, VEE, WEDGE, EN = (0, ()), (1, ()), (2, ()), (3, ((0, 1), (0, 2))), (3, ((0, 2), (1, 2))), plain.ENN
CHAIN3, SLAB, CAP = plain.chain(3), (4, ((0, 1), (0, 2), (1, 3), (2, 3))), (2, ((0, 1),))
WIDE, TEN = plain.fence(11), plain.fence(10)

# ANSWERS of EN as a whole, and of TWO.
TOLD = (((0,), 0), ((0, 1, 2), 2), ((0, 1, 3), 3), ((1,), 1), ((1, 3), 1))
BOTH = (((0,), 0), ((1,), 1))

NO_DEMANDS = (
    None, True, 0, "", "won", {}, {"won"}, 1.5, (), ("won",), (VEE,), (VEE, "won", ()), ("won", VEE), ("won", VEE, (0,), 0), ("won", VEE, None),
    ("won", VEE, (1,)), ("won", VEE, (0, 3)), ("won", VEE, (1, 0)), ("won", VEE, (True,)), ("won", None, ()), ("won", (2, ((1, 0),)), ()),
    ("won", VEE, 0), ("Won", VEE, ()), ("wo", VEE, ()), ("", VEE, ()), (None, VEE, ()), (0, VEE, ()), (True, VEE, ()), (("won",), VEE, ()),
    ("worth", VEE), ("worth", VEE, ()), ("worth", VEE, (), 0, 0), ("worth", VEE, (), -1), ("worth", VEE, (), True), ("worth", VEE, (), None),
    ("worth", VEE, (), "0"), ("worth", VEE, (), (0,)), ("worth", VEE, (1,), 0), ("worth", VEE, 0, ()), ("worth", None, (), 0), ("worth", VEE, (), 0.0),
    ("same", VEE), ("same", VEE, None), ("same", VEE, ()), ("same", VEE, (0,)), ("same", VEE, VEE, VEE), ("same", None, VEE), ("same", (2, ((0, 0),)), VEE),
    ("same", VEE, (3, ((0, 1), (0, 2), (1, 2)))), ("module", VEE), ("module", VEE, ()), ("module", VEE, (3,)), ("module", VEE, (1, 0)),
    ("module", VEE, (1, 1)), ("module", VEE, (True,)), ("module", VEE, None), ("module", VEE, (1,), (2,)), ("module", EMPTY, ()), ("module", EMPTY, (0,)),
    ("module", VEE, (-1, 0)), ("module", VEE, 1), ("term",), ("term", EMPTY), ("term", VEE, ()), ("term", None), ("term", (1,)), ("term", (True, ())),
    ("term", ("stack", 1, 1)), ("term", (3, ((0, 1), (0, 2), (1, 2)))), ("n", VEE), ("lost", VEE, ()), ("lost", VEE, (0,)), ("stack", VEE, VEE))


def whole(order):
    return plain.whole(order)


def set_of(order):
    return plain.set_left(order, whole(order))


def stands(demand):
    """Whether a DEMAND stands, by plain searches."""
    word, order = demand[:2]
    if word == "won":
        return plain.worth(order, demand[2]) > 0
    if word == "worth":
        return plain.worth(order, demand[2]) >= demand[3]
    if word == "same":
        return set_of(order) == set_of(demand[2])
    return plain.is_module(order, demand[2]) if word == "module" else not plain.ns(order)


def papers_and_reasons(demand):
    """All PAPERS against a DEMAND (PARTINGS with a top below 6), all REASONS for it; for "won" by small orders."""
    word, order = demand[:2]
    if word == "won":
        return won_told(order, demand[2])
    if word == "worth":
        return worth_told(order, demand[2], demand[3])
    if word == "same":
        rows = [[plain.lacking(set_of(own), top) for own in (order, demand[2])] for top in range(6)]
        papers = [(top, one, two) for top, (one, two) in enumerate(rows) if one != two]
        return papers, [set_of(order)] if stands(demand) else []
    if word == "module":
        return module_told(order, demand[2])
    return plain.ns(order), [term_of(order)] if stands(demand) else []


def won_told(order, left):
    replies = plain.all_replies(order)
    papers = [pairs for pairs in replies if plain.are_answers(order, left, pairs)]
    return papers, [(piece, pairs) for piece in left for pairs in replies
                    if plain.are_answers(order, plain.bitten(order, left, piece), pairs)]


def worth_told(order, left, number):
    own = plain.worth(order, left)
    reasons = [row for row in itertools.product(left, repeat=number)
               if [plain.worth(order, plain.bitten(order, left, piece)) for piece in row] == list(range(number))]
    return [own] if own < number else [], reasons


def module_told(order, pieces):
    papers = [(one, two, other) for one, two in itertools.combinations(pieces, 2) for other in range(order[0])
              if other not in pieces and plain.lies(order, other, one) != plain.lies(order, other, two)]
    kept = [piece for piece in whole(order) if piece not in pieces[1:]]
    reason = ((plain.part(order, kept), kept.index(pieces[0])), plain.part(order, pieces))
    return papers, [reason] if plain.is_module(order, pieces) else []


def term_of(order):
    def made(tree):
        return 1 if isinstance(tree, int) else (tree[0],) + tuple(made(own) for own in tree[1:])
    return made(plain.tree(order, whole(order)))


def demands_of(order):
    """DEMANDS of a small order, of each kind."""
    found = [("won", order, left) for left in plain.lefts(order)]
    found += [("worth", order, left, number) for left in plain.lefts(order) for number in range(4)]
    found += [("same", order, other) for other in (EMPTY, ONE, TWO, VEE, WEDGE, CHAIN3, EN)]
    found += [("module", order, pieces) for pieces in plain.sets_below(order[0]) if pieces]
    return found + [("term", order)] if order[0] else found


class Examples(Case):

    def test_examples(self):
        self.examples(EXAMPLES, dict(vars(judge)))


class Demands(Case):

    def test_is_demand(self):
        for order in plain.small_orders(3) + [EN]:
            for demand in demands_of(order):
                self.assertIs(is_demand(demand), True)
                self.assertIs(is_demand(list(demand)), False)
                self.assertIs(is_demand(lists(demand)), False)
                self.assertIs(is_demand(demand[:1] + (list(order),) + demand[2:]), False)
        for bad in NO_DEMANDS + NO_END:
            self.assertIs(is_demand(bad), False)

    def test_whatever_thing_is(self):
        for thing in things():
            told = repr(thing)
            self.gives(is_demand, (thing,), False)
            self.gives(is_demand, (("term", thing),), False)
            self.gives(is_demand, (("same", VEE, thing),), told == "(0, ())")
            self.gives(is_demand, (("won", VEE, thing),), told in ("()", "(0,)", "(0, 1)"))
            self.gives(is_demand, (("worth", VEE, (), thing),), isinstance(thing, int) and told.isdigit())
            self.gives(is_demand, (("module", (100, ()), thing),), thing in ((0,), (0, 1), (0, 1, 2, 3), tuple(range(100)))
                       and isinstance(thing, tuple) and "e" not in told)
            self.gives(is_demand, ((thing, VEE),), False)
        self.gives(is_demand, (("term", (10 ** 40, ())),), True)
        self.gives(is_demand, (("module", (10 ** 40, ()), (7, 10 ** 40 - 1)),), True)
        self.gives(is_demand, (("won", (10 ** 40, ((0, 1),)), (0, 1)),), True)
        self.gives(is_demand, (("won", (10 ** 40, ((0, 1),)), (1,)),), False)
        self.gives(is_demand, (("worth", EMPTY, (), 10 ** 40),), True)

    def test_what_is_no_demand(self):
        for bad in NO_DEMANDS + NO_END:
            for own in (bad, lists(bad)):
                self.unfit(is_so, own)
                self.unfit(paper_against, own)
                self.unfit(reason_for, own)
                for thing in (None, (), 0, (0, ())):
                    self.unfit(is_paper_against, own, thing)
                    self.unfit(is_reason_for, own, thing)
                self.unfit(first_fallen, (own,))
        for bad in BAD_ORDERS:
            for demand in (("won", bad, ()), ("worth", bad, (), 0), ("same", bad, VEE), ("same", VEE, bad), ("module", bad, (0,)), ("term", bad)):
                self.unfit(is_so, demand)
                self.unfit(is_reason_for, demand, None)
                self.assertIs(is_demand(demand), False)


class Judged(Case):

    def test_small_orders(self):
        for order in plain.small_orders(3):
            for demand in demands_of(order):
                papers, reasons = papers_and_reasons(demand)
                self.assertIs(bool(papers), not stands(demand))
                self.assertIs(bool(reasons), stands(demand))
                self.check(demand)
                for own in papers[:40]:
                    self.assertIs(is_paper_against(demand, own), True)
                for own in reasons[:40]:
                    self.assertIs(is_reason_for(demand, own), True)
                if papers:
                    self.assertIn(paper_against(demand), papers)
                else:
                    self.assertIn(reason_for(demand), reasons)

    def check(self, demand):
        """What is told holds, and is taken for what it is."""
        so, paper, reason = is_so(demand), paper_against(demand), reason_for(demand)
        self.assertIs(so, stands(demand))
        self.assertEqual((paper is None, reason is None), (so, not so))
        self.assertIs(is_paper_against(demand, paper), not so)
        self.assertIs(is_reason_for(demand, reason), so)
        self.assertIs(is_paper_against(demand, None), False)
        self.assertIs(is_reason_for(demand, None), False)

    def test_all_orders_of_four_and_five(self):
        rng = random.Random(27)
        for order in list(plain.all_orders(4)) + list(plain.all_orders(5))[::8]:
            for demand in rng.sample(demands_of(order), 12) + [("term", order)]:
                self.check(demand)
                if demand[0] != "won":
                    papers, reasons = papers_and_reasons(demand)
                    self.assertIn(paper_against(demand), papers + [None] * stands(demand))
                    self.assertIn(reason_for(demand), reasons + [None] * (not stands(demand)))

    def test_all_things_that_might_be_papers_or_reasons(self):
        for order in (TWO, CHAIN3, VEE, EN, SLAB, (4, ((0, 1), (0, 2), (1, 3)))):
            rows = [row for size in range(4) for row in itertools.product(range(order[0]), repeat=size)]
            rows += itertools.product(range(order[0]), repeat=4)
            for demand in demands_of(order):
                if demand[0] != "won":
                    papers, reasons = papers_and_reasons(demand)
                    for thing in rows + list(range(4)):
                        self.assertIs(is_paper_against(demand, thing), thing in papers)
                        self.assertIs(is_reason_for(demand, thing), thing in reasons)

    def test_in_every_guise(self):
        for order in (ONE, VEE, EN):
            for demand in demands_of(order)[::3]:
                so = stands(demand)
                self.gives(is_so, (demand,), so)
                self.in_every_guise(paper_against, (demand,), repr(paper_against(demand)))
                self.in_every_guise(reason_for, (demand,), repr(reason_for(demand)))
                self.gives(is_paper_against, (demand, paper_against(demand)), not so)
                self.gives(is_reason_for, (demand, reason_for(demand)), so)

    def only_these(self, function, demand, known, others):
        """Of known and others the function takes just what is known, to the kinds."""
        told = {repr(own) for own in known}
        for thing in known + others:
            self.gives(function, (demand, thing), repr(thing) in told)

    def test_won(self):
        wrong = [(), None, TOLD[1:], TOLD[::-1], list(TOLD), (None, TOLD), (0, ()), 0, TOLD[:4] + (((1, 3), 3),), TOLD + (((2,), 2),)]
        self.only_these(is_paper_against, ("won", EN, (0, 1, 2, 3)), [TOLD], wrong)
        self.only_these(is_reason_for, ("won", EN, (0, 1, 2, 3)), [], wrong + [TOLD])
        self.only_these(is_reason_for, ("won", VEE, (0, 1, 2)), [(0, ())], [(1, ()), (None, ()), (0, []), [0, ()], (False, ()), (0,), 0, None, ()])
        self.only_these(is_paper_against, ("won", VEE, (0, 1, 2)), [], [(), (0, ()), (None, ()), None, BOTH])
        self.only_these(is_reason_for, ("won", (3, ()), (0, 1, 2)), [(2, BOTH), (0, (((1,), 1), ((2,), 2)))], [(0, BOTH), (None, BOTH), (2, BOTH[:1])])
        self.only_these(is_paper_against, ("won", EMPTY, ()), [()], [None, (None, ()), [], 0])
        self.only_these(is_reason_for, ("won", EMPTY, ()), [], [(None, ()), (), None])

    def test_worth(self):
        lost, won = ("worth", EN, (0, 1, 2, 3), 1), ("worth", VEE, (0, 1), 2)
        self.only_these(is_paper_against, lost, [0], [1, -1, False, None, (), (0,), "0", 0.0])
        self.only_these(is_reason_for, lost, [], [(), (0,), (1,), None, 0])
        self.only_these(is_reason_for, won, [(0, 1)], [(1, 0), (0,), (0, 1, 1), (0, True), (False, 1), [0, 1], (0, 2), (0, -1), (), None, 2])
        self.only_these(is_paper_against, won, [], [2, 1, 0, None, (0, 1)])
        self.only_these(is_reason_for, ("worth", VEE, (0, 1), 0), [()], [None, [], 0, False, (0,)])
        self.only_these(is_paper_against, ("worth", VEE, (0, 1), 0), [], [0, 1, 2, None])
        self.only_these(is_paper_against, ("worth", VEE, (0, 1), 10 ** 40), [2], [0, 1, 10 ** 40, 10 ** 40 - 1])
        self.only_these(is_reason_for, ("worth", VEE, (0, 1), 10 ** 40), [], [(), (0, 1), (0,) * 1000])
        # Any of several pieces at which a BITE leaves a WORTH.
        self.only_these(is_reason_for, ("worth", (3, ()), (0, 1, 2), 1), [(0,), (1,), (2,)], [(3,), (-1,), (), (0, 1)])
        self.gives(reason_for, (("worth", plain.STALK, tuple(range(60)), 60),), tuple(range(60)))
        self.gives(reason_for, (("worth", EMPTY, (), 0),), ())
        self.gives(paper_against, (("worth", EMPTY, (), 1),), 0)

    def test_same(self):
        apart, one = ("same", TWO, EMPTY), ("same", (3, ()), ONE)
        self.only_these(is_paper_against, apart, [(1, 2, 1), (0 + 2, 3, 2), (10 ** 40, 10 ** 40 + 1, 10 ** 40)],
                        [(0, 0, 0), (1, 1, 2), [1, 2, 1], (1, 2, True), (True, 2, 1), (1, 2), (1,), None, ()])
        self.only_these(is_reason_for, apart, [], [(1,), (), None, (1, 2, 1)])
        self.only_these(is_reason_for, one, [(0,)], [(), (0, 0), [0], (False,), 0, None, (1,), ((0,),)])
        self.only_these(is_paper_against, one, [], [(0, 1, 1), (1, 2, 2), None, ()])
        self.only_these(is_reason_for, ("same", EMPTY, EMPTY), [()], [None, [], (0,), 0])
        self.only_these(is_reason_for, ("same", CAP, WEDGE), [(0, 1)], [(0, True), (False, 1), (1, 0), (0,)])
        self.gives(reason_for, (("same", plain.STREWN, TWO),), (1,))

    def test_module(self):
        yes, no = ("module", VEE, (1, 2)), ("module", EN, (0, 1))
        reason = (((2, ((0, 1),)), 1), (2, ()))
        self.only_these(is_reason_for, yes, [reason], [reason[::-1], list(reason), reason + ((),), reason[:1], (reason[0], (True, ())),
                                                       (((2, ((0, 1),)), True), (2, ())), (((2, ((0, 1),)), 0), (2, ())), (((2, ((False, 1),)), 1), (2, ())),
                                                       (((2, ((0, 1),)), 1), CAP), (((2, ()), 1), (2, ())), (list(reason[0]), (2, ())), None, ()])
        self.only_these(is_paper_against, yes, [], [(1, 2, 0), (0, 1, 2), None, ()])
        self.only_these(is_paper_against, no, [(0, 1, 3)], [(1, 0, 3), (0, 1, 2), (0, 1, 0), (0, 1, 1), (0, 0, 3), (0, 3, 1), (0, 2, 3), (0, 1, 4), (0, 1, -1),
                                                            (False, 1, 3), (0, True, 3), [0, 1, 3], (0, 1), (0, 1, 3, 3), None, (), ((0,), 1, 3)])
        self.only_these(is_reason_for, no, [], [reason, None, (0, 1, 3)])
        self.only_these(is_paper_against, ("module", CHAIN3, (0, 2)), [(0, 2, 1)], [(2, 0, 1), (0, 1, 2)])
        self.only_these(is_reason_for, ("module", ONE, (0,)), [((ONE, 0), ONE)], [((ONE, False), ONE), (((True, ()), 0), ONE), ((ONE, 0), (True, ())),
                                                                              ((ONE, 0), ONE, ()), ([ONE, 0], ONE), ((ONE, 0), [1, ()])])
        self.gives(reason_for, (("module", SLAB, (0, 1, 2, 3)),), ((ONE, 0), SLAB))
        self.gives(reason_for, (("module", SLAB, (3,)),), ((SLAB, 3), ONE))

    def test_term(self):
        yes, no = ("term", VEE), ("term", EN)
        term = ("stack", 1, ("beside", 1, 1))
        self.only_these(is_reason_for, yes, [term], [list(term), ("stack", 1, ["beside", 1, 1]), ("stack", True, ("beside", 1, 1)), ("stack", ("beside", 1, 1), 1),
                                                     ("stack", 1, ("beside", 1, True)), ("stack", 1, 1, 1), 1, None, (), ("stack", 1, ("beside", 1, 1, 1))])
        self.only_these(is_paper_against, yes, [], [(0, 1, 2, 2), (0, 1, 1, 2), None, ()])
        self.only_these(is_paper_against, no, [(0, 1, 2, 3)], [(1, 0, 2, 3), (3, 2, 1, 0), [0, 1, 2, 3], (False, 1, 2, 3), (0, True, 2, 3), (0, 1, 2), None, ()])
        self.only_these(is_reason_for, no, [], [1, term, None, (0, 1, 2, 3)])
        # The members of each "beside" in the order of their least pieces, as term_of tells them.
        self.only_these(is_reason_for, ("term", (3, ((0, 1),))), [("beside", ("stack", 1, 1), 1)], [("beside", 1, ("stack", 1, 1))])
        self.only_these(is_reason_for, ("term", ONE), [1], [True, (1,), [1], "1", None])
        self.gives(reason_for, (("term", plain.STALK),), ("stack",) + (1,) * 60)

    def test_whatever_thing_is(self):
        for thing in things():
            told = repr(thing)
            self.gives(is_paper_against, (("won", TWO, (0, 1)), thing), False)
            self.gives(is_paper_against, (("won", TWO, (0, 1)), (((0,), thing), ((1,), 1))), told == "0")
            self.gives(is_reason_for, (("won", VEE, (0, 1, 2)), thing), told == "(0, ())")
            self.gives(is_paper_against, (("worth", VEE, (), 1), thing), told == "0")
            self.gives(is_reason_for, (("worth", VEE, (0,), 1), thing), told == "(0,)")
            self.gives(is_reason_for, (("worth", VEE, (0,), 0), thing), told == "()")
            self.gives(is_paper_against, (("same", TWO, EMPTY), thing), False)
            self.gives(is_reason_for, (("same", ONE, (3, ())), thing), told == "(0,)")
            self.gives(is_reason_for, (("same", CAP, WEDGE), thing), told == "(0, 1)")
            self.gives(is_paper_against, (("module", EN, (0, 1)), thing), False)
            self.gives(is_reason_for, (("module", ONE, (0,)), thing), False)
            self.gives(is_reason_for, (("module", ONE, (0,)), ((ONE, thing), ONE)), told == "0")
            self.gives(is_paper_against, (("term", EN), thing), told == "(0, 1, 2, 3)")
            self.gives(is_reason_for, (("term", ONE), thing), told == "1")
            for demand in (("won", plain.ELEVEN, ()), ("worth", plain.ELEVEN, (), 0), ("same", VEE, WIDE), ("same", WIDE, WIDE)):
                self.refuses(is_paper_against, (demand, thing), "TooMany()")
                self.refuses(is_reason_for, (demand, thing), "TooMany()")


class FirstFallen(Case):

    def test_the_first_that_does_not_stand(self):
        rng = random.Random(28)
        every = [demand for order in (ONE, TWO, VEE, EN, SLAB) for demand in demands_of(order)]
        for _ in range(300):
            own = tuple(rng.sample(every, rng.randrange(6)))
            fallen = [number for number, demand in enumerate(own) if not stands(demand)]
            self.assertEqual(first_fallen(own), fallen[0] if fallen else None)
        stood = tuple(demand for demand in every if stands(demand))
        self.assertIs(first_fallen(stood), None)
        self.gives(first_fallen, (stood[::5] + (("term", EN), ("won", EMPTY, ())),), len(stood[::5]))
        self.gives(first_fallen, ((),), None)
        self.gives(first_fallen, ((("worth", VEE, (), 0), ("term", VEE), ("module", VEE, (1, 2)), ("same", ONE, (3, ())), ("won", VEE, (0,))),), None)

    def test_unfit_comes_ahead_of_all(self):
        for bad in NO_DEMANDS + NO_END:
            self.unfit(first_fallen, (("term", EN), bad))
            self.unfit(first_fallen, [["term", EN], bad])
            self.unfit(first_fallen, (("won", plain.ELEVEN, ()), bad))
            self.unfit(first_fallen, (bad, ("same", WIDE, WIDE)))
        for bad in (None, 0, "", {}, True, ("term", EN), ((),), "term", *NO_END):
            self.unfit(first_fallen, bad)

    def test_too_many_only_when_it_comes_to_it(self):
        fallen, stood = ("term", EN), ("term", VEE)
        for many in (("won", plain.ELEVEN, ()), ("worth", plain.STREWN, (), 0), ("same", VEE, WIDE)):
            self.refuses(first_fallen, ((many,),), "TooMany()")
            self.refuses(first_fallen, ((stood, many, fallen),), "TooMany()")
            self.refuses(first_fallen, ((many, fallen),), "TooMany()")
            self.gives(first_fallen, ((fallen, many),), 0)
            self.gives(first_fallen, ((stood, fallen, many),), 1)


class Bounds(Case):

    def too_many(self, demand, *own):
        for function in (is_so, paper_against, reason_for):
            self.refuses(function, (demand,), "TooMany()")
        for thing in (None, (), 0, (0, ())) + own:
            self.refuses(is_paper_against, (demand, thing), "TooMany()")
            self.refuses(is_reason_for, (demand, thing), "TooMany()")

    def test_more_lefts(self):
        for order in plain.MANY_LEFTS:
            for left in ((), (0,), whole(order)):
                self.too_many(("won", order, left), (None, ()))
                self.too_many(("worth", order, left, 0))
                self.too_many(("worth", order, left, 10 ** 6))

    def test_just_two_thousand_lefts(self):
        order = plain.JUST_FEW
        self.gives(is_so, (("won", order, whole(order)),), True)
        reason = reason_for(("won", order, whole(order)))
        self.assertIs(is_reason_for(("won", order, whole(order)), reason), True)
        self.assertIs(is_reason_for(("won", order, whole(order)), (reason[0], reason[1][1:])), False)
        self.gives(is_so, (("worth", order, whole(order), 4),), True)
        self.gives(paper_against, (("worth", order, whole(order), 5),), 4)

    def test_prime_parts_of_ten_and_of_eleven(self):
        for order, other in ((WIDE, VEE), (VEE, WIDE), (WIDE, WIDE), (plain.fence(60), plain.fence(60))):
            self.too_many(("same", order, other), (0, 0, 1))
        self.gives(is_so, (("same", TEN, TEN),), True)
        self.gives(is_reason_for, (("same", TEN, TEN), reason_for(("same", TEN, TEN))), True)

    def test_no_too_many_elsewhere(self):
        for order in (WIDE, plain.STREWN, plain.fence(60), plain.crown(30)):
            self.gives(is_so, (("module", order, (0,)),), True)
            self.gives(is_so, (("module", order, whole(order)),), True)
            self.gives(is_so, (("term", order),), order == plain.STREWN)
            for demand in (("module", order, (0, 1)), ("term", order)):
                if is_so(demand):
                    self.gives(is_reason_for, (demand, reason_for(demand)), True)
                else:
                    self.gives(is_paper_against, (demand, paper_against(demand)), True)
        self.gives(is_so, (("same", plain.STALK, plain.STREWN),), False)
        self.gives(paper_against, (("same", plain.STALK, plain.STREWN),), (0, 60, 0))


if __name__ == "__main__":
    unittest.main()
