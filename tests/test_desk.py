"""[26]: the desk."""

import inspect
import random
import unittest

from eatenorders import desk
from eatenorders.desk import Desk
from tests import plain
from tests.checks import BAD_ORDERS, NO_END, Case, ended, lists, turn_about

EXAMPLES = r"""
    >>> desk = Desk((4, ((0, 2), (1, 2), (1, 3))))
    >>> desk.say("left\nworth\nworths\nwins\nreply\ntake 1\nleft\nworth\nwins")
    ('0 1 2 3', '0', '1 2 3', 'none', 'lost', 'done', '0', '1', '0')
    >>> desk.play(), desk.left(), desk.say("take 2\ntake 4\nreply\nreply\nleft"), desk.play()
    ((1,), (0,), ('gone', 'no piece', '0', 'lost', 'none'), (1, 0))
    >>> desk.undo(), desk.say("left"), desk.redo(), desk.undo(), desk.undo(), desk.left()
    (1, ('0',), 2, 1, 0, (0, 1, 2, 3))
    >>> desk.say("left\ntake 01")
    raises BadText(line=1)
    >>> other = desk.twin()
    >>> other.say("take 3"), other == desk, other.undo(), other == desk, desk.redo()
    (('done',), False, 0, True, 1)
    >>> Desk((2, ((1, 0),)))
    raises Unfit()
"""

EMPTY, ONE, VEE, EN, SLAB = (0, ()), (1, ()), (3, ((0, 1), (0, 2))), plain.ENN, (4, ((0, 1), (0, 2), (1, 3), (2, 3)))
FEW = [EMPTY, ONE, VEE, EN, SLAB, plain.chain(3), (4, ())]

# Lines that are none of the table.
NO_LINES = ("", " ", "take", "take ", " take 1", "take 1 ", "take  1", "take 1 2", "take 01", "take 00", "take -1", "take -0", "take +1", "take x", "take 1x",
            "take 1000000", "take 0000001", "take 1.", "take1", "Take 1", "TAKE 1", "takes 1", "take one", "take #", "reply ", " reply", "reply 1", "Reply",
            "replies", "left ", "left left", "worth 1", "worths ", "win", "wins wins", "none", "done", "undo", "1", "#", "left # a remark", "take 1#")


class Plain:
    """A desk, straight from the table."""

    def __init__(self, order):
        self.order, self.done, self.undone = order, [()], []

    def left(self):
        left = plain.whole(self.order)
        for piece in self.done[-1]:
            left = plain.bitten(self.order, left, piece)
        return left

    def say(self, text):
        play, found = self.done[-1], []
        for line in text.split("\n"):
            self.done.append(play)
            answer, bite = self.answer(line)
            self.done.pop()
            found.append(answer)
            play += bite
        if play != self.done[-1]:
            self.done.append(play)
            self.undone = []
        return tuple(found)

    def answer(self, line):
        left = self.left()
        behind = {piece: plain.worth(self.order, plain.bitten(self.order, left, piece)) for piece in left}
        wins = [piece for piece in left if behind[piece] == 0]
        if line.startswith("take "):
            piece = int(line[5:])
            if piece >= self.order[0]:
                return "no piece", ()
            return ("done", (piece,)) if piece in left else ("gone", ())
        if line == "reply":
            return (str(wins[0]), (wins[0],)) if wins else ("lost", ())
        rows = {"left": left, "worth": [plain.worth(self.order, left)], "worths": sorted(set(behind.values())), "wins": wins}
        return " ".join(map(str, rows[line])) or "none", ()

    def undo(self):
        if len(self.done) == 1:
            return "raises NothingDone()"
        self.undone.append(self.done.pop())
        return repr(len(self.done[-1]))

    def redo(self):
        if not self.undone:
            return "raises NothingDone()"
        self.done.append(self.undone.pop())
        return repr(len(self.done[-1]))


def some_text(order, rng):
    lines = ["left", "worth", "worths", "wins", "reply"] + [f"take {piece}" for piece in range(order[0] + 2)]
    return "\n".join(rng.choice(lines) for _ in range(rng.randrange(1, 4)))


class Examples(Case):

    def test_examples(self):
        self.examples(EXAMPLES, dict(vars(desk)))


class Says(Case):

    def test_each_line(self):
        for order in plain.small_orders(4):
            for play in plain.all_plays(order)[::4]:
                text = "\n".join(f"take {piece}" for piece in play)
                for line in ["left", "worth", "worths", "wins", "reply"] + [f"take {piece}" for piece in range(order[0] + 1)]:
                    own, told = Desk(order), Plain(order)
                    if play:
                        self.assertEqual(own.say(text), ("done",) * len(play))
                        told.say(text)
                    self.assertEqual(own.say(line), told.say(line))
                    self.assertEqual((own.play(), own.left()), (told.done[-1], told.left()))

    def test_says_at_random(self):
        rng = random.Random(26)
        for order in FEW + plain.random_orders(71, 6, 6, 25):
            for _ in range(12):
                own, told = Desk(order), Plain(order)
                for _ in range(25):
                    self.step(own, told, rng)

    def step(self, own, told, rng):
        kind = rng.randrange(5)
        if kind < 3:
            text = some_text(told.order, rng)
            self.assertEqual(own.say(text), told.say(text))
        elif kind == 3:
            self.assertEqual(ended(own.undo), told.undo())
        else:
            self.assertEqual(ended(own.redo), told.redo())
        self.assertEqual((own.order(), own.play(), own.left()), (told.order, told.done[-1], told.left()))

    def test_refused_texts(self):
        own = Desk(EN)
        own.say("take 3")
        own.say("take 2")
        own.undo()
        for bad in NO_LINES:
            for text, line in ((bad, 0), ("left\n" + bad, 1), (bad + "\nleft", 0), ("take 0\n" + bad + "\n" + bad, 1), ("take 0\nreply\n" + bad, 2)):
                self.assertEqual(ended(own.say, (text,)), f"raises BadText(line={line})", repr(text))
                self.assertEqual((own.play(), own.left()), ((3,), (0, 1, 2)))
        for text, line in (("\n", 0), ("left\n", 1), ("left\n\nleft", 1), ("take 0\n", 1), ("\nleft", 0), ("", 0)):
            self.assertEqual(ended(own.say, (text,)), f"raises BadText(line={line})")
        # What could be done once more, and taken back, still can be.
        self.assertEqual((own.redo(), own.play(), own.undo(), own.undo()), (2, (3, 2), 1, 0))

    def test_numbers_of_six_and_of_seven_figures(self):
        own = Desk(EN)
        self.assertEqual(own.say("take 999999\ntake 100000\ntake 4\ntake 0"), ("no piece", "no piece", "no piece", "done"))
        for word in ("1000000", "9999999", "0999999", "123456789012", "1234567890123", "000000"):
            self.assertEqual(ended(own.say, ("take " + word,)), "raises BadText(line=0)")

    def test_no_piece_and_gone(self):
        own = Desk(EN)
        self.assertEqual(own.say("take 1\ntake 1\ntake 2\ntake 3\ntake 4\ntake 0\ntake 0\ntake 5"),
                         ("done", "gone", "gone", "gone", "no piece", "done", "gone", "no piece"))
        self.assertEqual((own.play(), own.left()), ((1, 0), ()))
        self.assertEqual(own.say("left\nworth\nworths\nwins\nreply"), ("none", "0", "none", "none", "lost"))

    def test_the_empty_order(self):
        own = Desk(EMPTY)
        self.assertEqual(own.say("left\nworth\nworths\nwins\nreply\ntake 0"), ("none", "0", "none", "none", "lost", "no piece"))
        self.assertEqual((own.order(), own.play(), own.left()), (EMPTY, (), ()))
        self.assertEqual((ended(own.undo), ended(own.redo)), ("raises NothingDone()",) * 2)

    def test_reply_against_reply(self):
        for order in plain.small_orders(4):
            own = Desk(order)
            while own.left():
                if own.say("reply") == ("lost",):
                    own.say(f"take {own.left()[-1]}")
            self.assertEqual(len(own.play()) % 2 == 1, plain.worth(order, plain.whole(order)) > 0)


class Undo(Case):

    def test_a_say_is_taken_back_whole(self):
        own = Desk(EN)
        own.say("take 3\nleft\ntake 2")
        own.say("worth")
        own.say("take 3")
        own.say("take 1\nreply")
        self.assertEqual(own.play(), (3, 2, 1, 0))
        self.assertEqual((own.undo(), own.play()), (2, (3, 2)))
        self.assertEqual((own.undo(), own.play()), (0, ()))
        self.assertEqual(ended(own.undo), "raises NothingDone()")
        self.assertEqual((own.redo(), own.play()), (2, (3, 2)))
        self.assertEqual((own.redo(), own.play()), (4, (3, 2, 1, 0)))
        self.assertEqual(ended(own.redo), "raises NothingDone()")
        self.assertEqual(own.play(), (3, 2, 1, 0))

    def test_what_does_nothing_leaves_what_can_be_done_once_more(self):
        own = Desk(EN)
        own.say("take 3")
        own.say("take 2")
        own.undo()
        for text in ("left", "worth\nworths\nwins", "take 3", "take 9\ntake 3"):
            own.say(text)
        self.assertEqual((own.redo(), own.play()), (2, (3, 2)))
        own.undo()
        own.undo()
        self.assertEqual(own.say("reply"), ("lost",))
        self.assertEqual((own.redo(), own.redo(), own.play()), (1, 2, (3, 2)))

    def test_what_does_something_ends_it(self):
        own = Desk(EN)
        own.say("take 3")
        own.say("take 2")
        own.undo()
        own.undo()
        own.say("take 2")
        self.assertEqual(ended(own.redo), "raises NothingDone()")
        self.assertEqual((own.play(), own.undo(), own.play()), ((2,), 0, ()))
        # Even the same BITE as the one taken back.
        own.redo()
        own.undo()
        own.say("take 2")
        self.assertEqual(ended(own.redo), "raises NothingDone()")
        self.assertEqual(ended(own.undo), "0")

    def test_nothing_done(self):
        own = Desk(VEE)
        self.assertEqual((ended(own.undo), ended(own.redo)), ("raises NothingDone()",) * 2)
        own.say("left\ntake 7")
        self.assertEqual((ended(own.undo), ended(own.redo)), ("raises NothingDone()",) * 2)
        self.assertEqual((own.play(), own.left()), ((), (0, 1, 2)))


class Twins(Case):

    def test_twins_go_their_own_ways(self):
        own = Desk(EN)
        own.say("take 3")
        own.say("take 2")
        own.undo()
        other = own.twin()
        self.assertIsNot(own, other)
        self.assertEqual((own == other, other == own, own != other), (True, True, False))
        self.assertEqual((other.redo(), other.play(), own.play()), (2, (3, 2), (3,)))
        self.assertEqual((own == other, own != other), (False, True))
        self.assertEqual((own.redo(), own == other), (2, True))
        self.assertEqual((own.undo(), own.undo(), ended(own.undo)), (1, 0, "raises NothingDone()"))
        self.assertEqual((other.play(), other.undo(), other.undo(), ended(other.undo)), ((3, 2), 1, 0, "raises NothingDone()"))
        other.say("take 0")
        self.assertEqual((own.redo(), ended(other.redo)), (1, "raises NothingDone()"))

    def test_twins_of_twins_at_random(self):
        rng = random.Random(27)
        for order in (EN, SLAB, (4, ())):
            for _ in range(10):
                desks = [(Desk(order), Plain(order))]
                for _ in range(30):
                    own, told = rng.choice(desks)
                    if rng.randrange(6) == 0:
                        copy = Plain(order)
                        copy.done, copy.undone = list(told.done), list(told.undone)
                        desks.append((own.twin(), copy))
                    else:
                        Says.step(self, own, told, rng)
                for one, first in desks:
                    for two, second in desks:
                        self.assertIs(one == two, first.done[-1] == second.done[-1])

    def test_equal_by_order_and_play_alone(self):
        one, two = Desk(EN), Desk(lists(EN))
        self.assertTrue(one == two)
        one.say("take 3\ntake 2")
        self.assertTrue(one != two)
        two.say("take 3")
        self.assertFalse(one == two)
        two.say("take 2")
        self.assertTrue(one == two)
        one.undo()
        self.assertFalse(one == two)
        # The same LEFT by other PLAYS.
        one.say("take 2")
        one.say("take 3")
        self.assertEqual(one.left(), two.left())
        self.assertFalse(one == two)
        self.assertFalse(Desk(VEE) == Desk(EN))
        self.assertFalse(Desk((2, ())) == Desk((2, ((0, 1),))))
        for other in (None, 0, EN, (), "", ((3, 2), ())):
            self.assertIs(two == other, False)
            self.assertIs(two != other, True)


class Made(Case):

    def test_what_is_given_is_copied(self):
        for order in FEW:
            given = lists(order)
            own = Desk(given)
            given[0] = 60
            given[1].append([0, 59])
            self.assertEqual(repr(own.order()), repr(order))
            self.assertEqual(own.left(), plain.whole(order))
            self.assertTrue(own == Desk(order=turn_about(order)))

    def test_what_is_returned_may_be_handed_in_again(self):
        for order in FEW:
            own = Desk(order)
            own.say(text="reply\ntake 0")
            other = Desk(own.order())
            for piece in own.play():
                self.assertEqual(other.say(f"take {piece}"), ("done",))
            self.assertTrue(own == other)
            self.assertEqual(own.left(), other.left())
            self.assertIsInstance(own.play(), tuple)
            self.assertIsInstance(own.left(), tuple)
            self.assertIsInstance(own.say("left"), tuple)

    def test_methods_and_their_arguments(self):
        told = {"say": ["self", "text"], "order": ["self"], "play": ["self"], "left": ["self"], "undo": ["self"], "redo": ["self"],
                "twin": ["self"], "__eq__": ["self", "other"], "__init__": ["self", "order"]}
        for name, arguments in told.items():
            self.assertIn(name, vars(Desk))
            self.assertEqual(list(inspect.signature(vars(Desk)[name]).parameters), arguments)
        self.assertEqual(Desk.__module__, "eatenorders.desk")

    def test_what_is_no_order(self):
        for bad in BAD_ORDERS + NO_END:
            self.unfit(Desk, bad)

    def test_bounds(self):
        for order in plain.MANY_LEFTS:
            self.assertEqual(ended(Desk, (order,)), "raises TooMany()")
        own = Desk(plain.JUST_FEW)
        self.assertEqual(own.say("worth\nwins\nreply\nworth\nwins"), ("4", "0 4 8", "0", "0", "none"))
        for order, worth, wins in ((plain.STALK, "60", "0"), (plain.side_by_side(plain.chain(30), plain.chain(30)), "0", "none"),
                                   (plain.side_by_side(plain.chain(40), plain.chain(20)), str(40 ^ 20), "20")):
            own = Desk(order)
            self.assertEqual(own.say("worth\nwins\nleft"), (worth, wins, " ".join(map(str, range(60)))))
            self.assertEqual(own.say("\n".join(f"take {piece}" for piece in range(59, -1, -1))), ("done",) * 60)
            self.assertEqual((len(own.play()), own.left(), own.undo(), own.redo()), (60, (), 0, 60))


if __name__ == "__main__":
    unittest.main()
