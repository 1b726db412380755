"""[18]: replies to plays, whole plays counted and numbered, how long they last."""

import functools
import unittest

from eatenorders import replies as own
from eatenorders.replies import dragged, dragging, how_many_plays, hurried, hurrying, is_reply, play_drawn, play_number
from eatenorders.replies import plays_by_length, plays_won, replies, reply
from tests import plain
from tests.checks import BAD_ORDERS, NO_END, NO_LEFTS, NO_NUMBERS, Case, lists, things

EXAMPLES = r"""
    >>> two, vee, en = (2, ()), (3, ((0, 1), (0, 2))), (4, ((0, 2), (1, 2), (1, 3)))
    >>> replies(vee, ()), replies(vee, (1,)), replies(en, ()), replies(en, (3,)), reply(en, (0,)), is_reply(vee, (1,), 2), is_reply(vee, (1,), 0)
    ((0,), (0,), (), (2,), 1, False, True)
    >>> how_many_plays(vee, (0, 1, 2)), plays_by_length(vee, (0, 1, 2)), plays_by_length(en, (0, 1, 2, 3)), plays_by_length(en, ())
    (5, ((1, 1), (2, 2), (3, 2)), ((2, 2), (3, 5), (4, 5)), ((0, 1),))
    >>> plays_won(vee, (0, 1, 2)), plays_won(en, (0, 1, 2, 3)), plays_won(en, ())
    (3, 5, 0)
    >>> [play_drawn(vee, own) for own in range(5)], play_number(vee, (1, 2, 0)), play_drawn((0, ()), 0)
    ([(0,), (1, 0), (1, 2, 0), (2, 0), (2, 1, 0)], 2, ())
    >>> five = (5, ((0, 2), (1, 2), (1, 3), (2, 4)))
    >>> [(hurried(own, tuple(range(own[0]))), dragged(own, tuple(range(own[0])))) for own in (two, vee, en, five)]
    [(2, 2), (1, 1), (4, 2), (5, 3)]
    >>> hurrying(en, (0, 1, 2, 3)), dragging(en, (0, 1, 2, 3)), hurrying(five, (0, 1, 2, 3, 4)), hurrying(five, ())
    ((2, 3), (0, 1), (4,), ())
    >>> thirty = (30, ())
    >>> play_drawn(vee, 5)
    raises Broken(number=5)
    >>> how_many_plays(thirty, (0,))
    raises TooMany()
    >>> reply(en, ())
    raises CanNot()
    >>> play_number(vee, (1,))
    raises CanNot()
    >>> replies(vee, (0, 1))
    raises Unfit()
"""

EMPTY, ONE, TWO, VEE, EN = (0, ()), (1, ()), (2, ()), (3, ((0, 1), (0, 2))), plain.ENN
FIVE = (5, ((0, 2), (1, 2), (1, 3), (2, 4)))
FEW = [EMPTY, ONE, TWO, VEE, EN, plain.chain(3), FIVE]

BY_LEFT = (how_many_plays, plays_by_length, plays_won, hurried, dragged, hurrying, dragging)
BY_PLAY = (replies, reply, play_number)

# No PLAYS of EN.
NO_PLAYS = (None, True, 0, "", "0", {}, {0}, 1.5, (0, 0), (0, 2), (1, 2), (1, 3), (3, 1, 3), (4,), (-1,), (True,), (2, False),
            (None,), ("0",), (1.0,), ((0,),), ((),), (3, 2, 1, 0, 0), *NO_END)


def lost(order, left):
    return plain.worth(order, left) == 0


@functools.lru_cache(maxsize=None)
def whole_plays(order, left):
    """The list of the whole PLAYS from left, ascending."""
    if not left:
        return [()]
    return sorted((piece,) + rest for piece in left for rest in whole_plays(order, plain.bitten(order, left, piece)))


def by_length(order, left):
    lengths = [len(play) for play in whole_plays(order, left)]
    return tuple((bites, lengths.count(bites)) for bites in sorted(set(lengths)))


@functools.lru_cache(maxsize=None)
def lasting(order, left, hurry):
    """How many BITES it takes, and by which pieces, from the words: the winner, then the loser, chooses."""
    told = {piece: 1 + lasting(order, plain.bitten(order, left, piece), hurry)[0] for piece in left}
    if not told:
        return 0, ()
    if lost(order, left):
        best = max(told.values()) if hurry else min(told.values())
    else:
        told = {piece: bites for piece, bites in told.items() if lost(order, plain.bitten(order, left, piece))}
        best = min(told.values()) if hurry else max(told.values())
    return best, tuple(piece for piece in left if told.get(piece) == best)


def left_behind(order, play):
    left = plain.whole(order)
    for piece in play:
        left = plain.bitten(order, left, piece)
    return left


def replies_told(order, play):
    left = left_behind(order, play)
    return tuple(piece for piece in left if lost(order, plain.bitten(order, left, piece)))


class Examples(Case):

    def test_examples(self):
        self.examples(EXAMPLES, dict(vars(own)))


class Replies(Case):

    def test_all_plays_of_small_orders(self):
        for order in plain.small_orders(4) + list(plain.all_orders(5))[::9]:
            for play in plain.all_plays(order):
                told = replies_told(order, play)
                self.assertEqual(replies(order, play), told)
                if told:
                    self.assertIn(reply(order, play), told)
                for piece in range(-1, order[0] + 1):
                    self.assertIs(is_reply(order, play, piece), piece in told)

    def test_in_every_guise(self):
        for order in FEW:
            for play in plain.all_plays(order)[::3]:
                told = replies_told(order, play)
                self.gives(replies, (order, play), told)
                if told:
                    self.gives(reply, (order, play), reply(order, play))
                    self.gives(is_reply, (order, play, told[-1]), True)
                else:
                    self.refuses(reply, (order, play), "CanNot()")
                    self.gives(is_reply, (order, play, 0), False)

    def test_who_always_replies_takes_the_last_piece(self):
        for order in plain.small_orders(4) + list(plain.all_orders(5))[::23]:
            if replies(order, ()):
                self.play(order, (reply(order, ()),))
            else:
                self.play(order, ())

    def play(self, order, play):
        """Whatever the other does behind play, there is a reply, up to the last piece."""
        for piece in left_behind(order, play):
            ahead = play + (piece,)
            self.assertTrue(replies(order, ahead))
            self.play(order, ahead + (reply(order, ahead),))

    def test_whatever_thing_is(self):
        for thing in things():
            self.gives(is_reply, (VEE, (), thing), repr(thing) == "0")
            self.gives(is_reply, (VEE, (1, 2), thing), repr(thing) == "0")
            self.gives(is_reply, (EN, (3,), thing), repr(thing) == "2")
            self.gives(is_reply, (EN, (), thing), False)
            self.unfit(is_reply, (2, ((1, 0),)), (), thing)
            self.unfit(is_reply, EN, (0, 2), thing)
            self.refuses(is_reply, (plain.ELEVEN, (), thing), "TooMany()")
        for bad in (True, (1,), [1], "1", 1.0, None, -1, 0, 2):
            self.gives(is_reply, ((3, ()), (2, 0), bad), False)
        self.gives(is_reply, ((3, ()), (2, 0), 1), True)


class Counts(Case):

    def check(self, order, left):
        known = whole_plays(order, left)
        self.assertEqual(how_many_plays(order, left), len(known))
        self.assertEqual(plays_by_length(order, left), by_length(order, left))
        self.assertEqual(plays_won(order, left), len([play for play in known if len(play) % 2]))
        told = plays_by_length(order, left)
        least = [piece for piece in left if not any((low, piece) in plain.pairs_of(order) for low in left)]
        self.assertEqual((told[0][0], told[-1][0]), (len(least), len(left)))

    def test_all_lefts_of_small_orders(self):
        for order in plain.small_orders(4):
            for left in plain.lefts(order):
                self.check(order, left)
        for order in plain.all_orders(5):
            for left in plain.lefts(order)[::-6]:
                self.check(order, left)

    def test_greater_orders(self):
        for order in plain.random_orders(31, 3, 6, 30) + plain.random_orders(32, 2, 7, 45):
            self.check(order, plain.whole(order))

    def test_in_every_guise(self):
        for order in FEW:
            for left in plain.lefts(order):
                known = whole_plays(order, left)
                self.gives(how_many_plays, (order, left), len(known))
                self.gives(plays_by_length, (order, left), by_length(order, left))
                self.gives(plays_won, (order, left), len([play for play in known if len(play) % 2]))

    def test_far_more_plays_than_can_be_gone_through(self):
        # A whole PLAY of a CHAIN goes down it by some of its pieces, and takes the lowest.
        self.gives(how_many_plays, (plain.STALK, tuple(range(60))), 2 ** 59)
        self.gives(plays_won, (plain.STALK, tuple(range(60))), 2 ** 58)
        self.assertEqual(plays_by_length(plain.STALK, tuple(range(60)))[:3], ((1, 1), (2, 59), (3, 59 * 29)))
        self.gives(how_many_plays, ((10, ()), tuple(range(10))), 3628800)
        self.gives(plays_by_length, ((10, ()), tuple(range(10))), ((10, 3628800),))
        layers = plain.stacked(*[(3, ())] * 20)
        self.assertEqual(sum(plays for _, plays in plays_by_length(layers, tuple(range(60)))),
                         how_many_plays(layers, tuple(range(60))))
        self.assertGreater(how_many_plays(layers, tuple(range(60))), 10 ** 20)


class Numbers(Case):

    def test_all_whole_plays(self):
        for order in plain.small_orders(4) + list(plain.all_orders(5))[::5]:
            known = whole_plays(order, plain.whole(order))
            self.assertEqual([play_drawn(order, number) for number in range(len(known))], known)
            self.assertEqual([play_number(order, play) for play in known], list(range(len(known))))

    def test_plays_that_are_not_whole(self):
        for order in plain.small_orders(4):
            for play in plain.all_plays(order):
                if left_behind(order, play):
                    self.refuses(play_number, (order, play), "CanNot()")

    def test_no_such_number(self):
        for order in FEW:
            many = len(whole_plays(order, plain.whole(order)))
            for number in (-1, -2, many, many + 1, 10 ** 40, -10 ** 40):
                self.refuses(play_drawn, (order, number), f"Broken(number={number})")
            self.gives(play_drawn, (order, many - 1), whole_plays(order, plain.whole(order))[-1])
            self.gives(play_drawn, (order, 0), whole_plays(order, plain.whole(order))[0])
        self.gives(play_number, (EMPTY, ()), 0)
        self.refuses(play_drawn, (EMPTY, 1), "Broken(number=1)")

    def test_numbers_to_ten_to_the_fortieth(self):
        layers = plain.stacked(*[(6, ())] * 10)
        many = how_many_plays(layers, tuple(range(60)))
        seven = plain.stacked(*[(8, ())] * 7)
        for order in (layers, seven):
            many = how_many_plays(order, tuple(range(order[0])))
            for number in (0, 1, 7, many // 3, many - 2, many - 1):
                play = play_drawn(order, number)
                self.gives(play_number, (order, play), number)
                self.assertEqual(left_behind(order, play), ())
            self.refuses(play_drawn, (order, many), f"Broken(number={many})")
            self.refuses(play_drawn, (order, -1), "Broken(number=-1)")
        wide = plain.stacked(*[(9, ())] * 3 + [plain.chain(30)])
        self.assertGreater(how_many_plays(wide, tuple(range(57))), 10 ** 20)
        self.gives(play_number, (wide, play_drawn(wide, 10 ** 20)), 10 ** 20)

    def test_they_ascend(self):
        layers = plain.stacked(*[(4, ())] * 10)
        told = [play_drawn(layers, number) for number in (0, 10, 10 ** 9, 10 ** 9 + 1, 10 ** 12)]
        self.assertEqual(told, sorted(told))


class Lasting(Case):

    def check(self, order, left):
        fast, faster = lasting(order, left, True)
        slow, slower = lasting(order, left, False)
        self.assertEqual((hurried(order, left), hurrying(order, left)), (fast, faster))
        self.assertEqual((dragged(order, left), dragging(order, left)), (slow, slower))
        self.assertEqual((fast % 2, slow % 2), (not lost(order, left),) * 2)
        lengths = [bites for bites, _ in plays_by_length(order, left)]
        self.assertTrue(lengths[0] <= fast <= lengths[-1] and lengths[0] <= slow <= lengths[-1])

    def test_all_lefts_of_small_orders(self):
        for order in plain.small_orders():
            for left in plain.lefts(order)[::1 if order[0] < 5 else -4]:
                self.check(order, left)

    def test_greater_orders(self):
        for order in plain.some_orders()[:12]:
            for left in plain.lefts(order)[::-11]:
                self.check(order, left)
        for order in plain.random_orders(33, 60, 6, 25) + plain.random_orders(34, 30, 7, 20):
            self.check(order, plain.whole(order))

    def test_who_wins_may_have_faster_and_slower_bites(self):
        order = (6, ((0, 4), (0, 5), (1, 2), (3, 4), (3, 5)))
        # Behind the BITE at 1 two BITES can be all that follow, behind that at 4 or 5 no fewer than four.
        self.gives(dragged, (order, plain.whole(order)), 5)
        self.gives(dragging, (order, plain.whole(order)), (4, 5))
        order = (7, ((0, 1), (1, 4), (3, 5), (5, 6)))
        self.gives(dragging, (order, plain.whole(order)), lasting(order, plain.whole(order), False)[1])

    def test_in_every_guise(self):
        for order in FEW:
            for left in plain.lefts(order):
                self.gives(hurried, (order, left), lasting(order, left, True)[0])
                self.gives(dragged, (order, left), lasting(order, left, False)[0])
                self.gives(hurrying, (order, left), lasting(order, left, True)[1])
                self.gives(dragging, (order, left), lasting(order, left, False)[1])

    def test_chains(self):
        every = tuple(range(60))
        self.gives(hurried, (plain.STALK, every), 1)
        self.gives(dragging, (plain.STALK, every), (0,))
        both = plain.side_by_side(plain.chain(5), plain.chain(5))
        # Who loses takes one at a time, or all of one at once; the other one does likewise.
        self.gives(hurried, (both, every[:10]), 10)
        self.gives(dragged, (both, every[:10]), 2)
        self.gives(hurrying, (both, every[:10]), (4, 9))
        self.gives(dragging, (both, every[:10]), (0, 5))


class Bounds(Case):

    def test_just_two_thousand_lefts(self):
        order, every = plain.JUST_FEW, plain.whole(plain.JUST_FEW)
        lengths = plays_by_length(order, every)
        self.assertEqual((lengths[0], lengths[-1][0]), ((7, 5040), 16))
        self.gives(how_many_plays, (order, every), sum(plays for _, plays in lengths))
        self.gives(replies, (order, ()), (0, 4, 8))
        self.gives(replies, (order, (0,)), ())
        self.gives(play_number, (order, play_drawn(order, 10 ** 9)), 10 ** 9)
        self.assertEqual((hurried(order, every) % 2, dragged(order, every) % 2), (1, 1))

    def test_more_lefts(self):
        for order in plain.MANY_LEFTS:
            for left in ((), (0,), plain.whole(order)):
                for function in BY_LEFT:
                    self.refuses(function, (order, left), "TooMany()")
            for play in ((), (0,), (order[0] - 1,)):
                for function in BY_PLAY:
                    self.refuses(function, (order, play), "TooMany()")
                self.refuses(is_reply, (order, play, 0), "TooMany()")
            for number in (0, -1, 10 ** 40):
                self.refuses(play_drawn, (order, number), "TooMany()")


class Refused(Case):

    def test_what_is_no_order(self):
        for bad in BAD_ORDERS + NO_END:
            for other in ((), (1,), None):
                for function in BY_LEFT + BY_PLAY:
                    self.unfit(function, bad, other)
                self.unfit(is_reply, bad, other, 0)
            for number in (0, -1, None):
                self.unfit(play_drawn, bad, number)

    def test_what_is_no_left(self):
        for bad in NO_LEFTS:
            for left in (bad, lists(bad)):
                for function in BY_LEFT:
                    self.unfit(function, EN, left)

    def test_what_is_no_play(self):
        for bad in NO_PLAYS:
            for play in (bad, lists(bad)):
                for function in BY_PLAY:
                    self.unfit(function, EN, play)
                self.unfit(is_reply, EN, play, 0)

    def test_what_is_no_number(self):
        for bad in NO_NUMBERS + NO_END:
            for order in (EN, EMPTY, plain.ELEVEN):
                self.unfit(play_drawn, order, bad)

    def test_unfit_comes_ahead_of_too_many_and_cannot(self):
        for order in plain.MANY_LEFTS:
            for bad in ((order[0],), (-1,), (0, 0), None):
                for function in BY_LEFT + BY_PLAY:
                    self.unfit(function, order, bad)
                self.unfit(is_reply, order, bad, 0)
        for bad in ((0, 2), (0, 0)):
            self.unfit(reply, EN, bad)
            self.unfit(play_number, EN, bad)


if __name__ == "__main__":
    unittest.main()
