"""[22]: texts and pictures."""

import itertools
import random
import unittest

from eatenorders import texts
from eatenorders.texts import is_sheet, order_text, picture, read_order, read_picture, read_sheet, sheet_text
from tests import plain
from tests.checks import BAD_ORDERS, NO_END, Case, ended, lists, things

EXAMPLES = r"""
    >>> fork = (3, ((0, 1), (0, 2)))
    >>> picture(fork), read_picture("=<<\n>=.\n>.=\n") == fork, picture((0, ())), read_picture("")
    ('=<<\n>=.\n>.=\n', True, '', (0, ()))
    >>> sheet_text((fork, (1, 0))), order_text((0, ())), read_sheet("pieces 2 # a stalk\n\ntie 0 1\nbite 1\nbite 0\n")
    ('pieces 3\ntie 0 1\ntie 0 2\nbite 1\nbite 0\n', 'pieces 0\n', ((2, ((0, 1),)), (1, 0)))
    >>> read_order("pieces 1"), is_sheet((fork, (1, 2))), is_sheet((fork, (0, 1))), is_sheet([fork, ()])
    ((1, ()), True, False, False)
    >>> read_sheet("pieces 3\ntie 0 1\ntie 0 2\ntie 1 2")
    raises BadText(line=3)
    >>> read_sheet("pieces 2\ntie 0 1\nbite 0\nbite 1")
    raises BadText(line=3)
    >>> read_picture("=<.\n>=<\n.>=\n")
    raises CanNot()
"""

EMPTY, ONE, FORK, EN = (0, ()), (1, ()), (3, ((0, 1), (0, 2))), plain.ENN
FEW = [EMPTY, ONE, (3, ()), FORK, EN, plain.chain(4)]

# Texts with a fault, and its line.
FAULTS = (
    ("", 0), ("\n\n\n", 0), ("# nothing\n   \n", 0), ("   ", 0), ("tie 0 1", 0), ("bite 0", 0), ("pieces", 0), ("pieces 1 2", 0),
    ("piece 1", 0), ("Pieces 1", 0), ("pieces one", 0), ("pieces 01", 0), ("pieces -1", 0), ("pieces -0", 0), ("pieces 1-", 0),
    ("1 pieces", 0), ("pieces pieces", 0), ("pieces 1234567890123", 0), ("pieces -123456789012", 0), ("\n\npieces", 2), ("\n# a\n  tie 0 1\n", 2),
    ("pieces 2\npieces 2", 1), ("pieces 2\n\n\npieces 3", 3), ("pieces 2\ntie 0 1\npieces 2", 2), ("pieces 2\nbite 0\npieces 2", 2),
    ("pieces 2\ntie", 1), ("pieces 2\ntie 0", 1), ("pieces 2\ntie 0 1 1", 1), ("pieces 2\ntie 0 01", 1), ("pieces 2\ntie 0 x", 1),
    ("pieces 2\ntie 0 2", 1), ("pieces 2\ntie 1 0", 1), ("pieces 2\ntie 1 1", 1), ("pieces 2\ntie -1 1", 1), ("pieces 2\ntie -2 -1", 1),
    ("pieces 0\ntie 0 1", 1), ("pieces 0\nbite 0", 1), ("pieces 1\ntie 0 0", 1), ("pieces 2\ntie 0 0000000000001", 1),
    ("pieces 3\ntie 0 1\ntie 0 1", 2), ("pieces 3\ntie 0 2\ntie 0 1", 2), ("pieces 3\ntie 1 2\ntie 0 1", 2), ("pieces 3\ntie 1 2\n\ntie 0 2", 3),
    ("pieces 3\ntie 0 1\ntie 0 2\ntie 1 2", 3), ("pieces 4\ntie 0 1\ntie 0 3\ntie 1 2\ntie 2 3", 4),
    ("pieces 4\ntie 0 1\ntie 0 2\ntie 0 3\ntie 1 3", 4), ("pieces 5\ntie 0 2\ntie 0 4\ntie 1 3\ntie 1 4\ntie 2 3\ntie 3 4", 6),
    ("pieces 2\nbite", 1), ("pieces 2\nbite 0 1", 1), ("pieces 2\nbite 2", 1), ("pieces 2\nbite -1", 1), ("pieces 2\nbite 00", 1),
    ("pieces 2\nbite 0\nbite 0", 2), ("pieces 2\ntie 0 1\nbite 0\nbite 1", 3), ("pieces 3\ntie 0 1\ntie 1 2\nbite 0\nbite 2", 4),
    ("pieces 2\nbite 0\ntie 0 1", 2), ("pieces 3\ntie 0 1\nbite 2\ntie 0 2\nbite 2", 3), ("pieces 2\nleft 0", 1), ("pieces 2\n0", 1),
    # A sign that is none comes ahead of all rows.
    ("tie 0 1\npieces 2\nTIE", 2), ("\n\n pieces 1.", 2), ("pieces -1\n_", 1), ("pieces 2 # ok\ntie 0 1 ! #", 1), ("bite 0\n\n#\n  =", 3),
    ("pieces 2\ntie 1 0\nbite 0 ; 1\n:", 2))


def outcome(text):
    """What read_sheet is to do with a text without a fault of [4], from the words of the point."""
    rows = [(line, row.partition("#")[0].split()) for line, row in enumerate(text.split("\n"))]
    rows = [(line, row) for line, row in rows if row]
    if not rows:
        return "raises BadText(line=0)"
    many, ties, play = None, (), ()
    for at, (line, row) in enumerate(rows):
        numbers = [int(word) if str(int(word)) == word and len(word.lstrip("-")) < 13 else None
                   for word in row[1:] if word.lstrip("-").isdigit()]
        if len(numbers) < len(row) - 1 or None in numbers or (row[0] == "pieces") != (at == 0):
            return f"raises BadText(line={line})"
        if row[0] == "pieces" and len(numbers) == 1 and numbers[0] >= 0:
            many = numbers[0]
        elif row[0] == "tie" and len(numbers) == 2 and not play and fits(many, ties + (tuple(numbers),)):
            ties += (tuple(numbers),)
        elif row[0] == "bite" and len(numbers) == 1 and is_play(many, ties, play + tuple(numbers)):
            play += tuple(numbers)
        else:
            return f"raises BadText(line={line})"
    return repr(((many, ties), play))


def fits(many, ties):
    return all(0 <= low < high < many for low, high in ties) and list(ties) == sorted(set(ties)) and plain.is_order(many, ties)


def is_play(many, ties, play):
    return all(0 <= piece < many for piece in play) and plain.flaw((many, ties), play) is None


def drawn(order):
    """The picture of order, from its words."""
    signs = {None: "=", "under": "<", "above": ">", "beside": "."}
    return "".join("".join(signs[plain.lies(order, piece, other)] for other in range(order[0])) + "\n" for piece in range(order[0]))


class Examples(Case):

    def test_examples(self):
        self.examples(EXAMPLES, dict(vars(texts)))


class Sheets(Case):

    def test_what_is_told_is_read(self):
        for order in plain.small_orders(4) + list(plain.all_orders(5))[::6] + plain.some_orders()[:6]:
            self.assertEqual(read_sheet(order_text(order)), (order, ()))
            self.assertEqual(read_order(order_text(order)), order)
            for play in (plain.all_plays(order)[::5] if order[0] < 6 else [(order[0] - 1, 0)]):
                rows = [f"pieces {order[0]}"] + [f"tie {low} {high}" for low, high in order[1]] + [f"bite {piece}" for piece in play]
                self.assertEqual(sheet_text((order, play)), "\n".join(rows) + "\n")
                self.assertEqual(read_sheet(sheet_text((order, play))), (order, play))
                self.assertEqual(read_order(sheet_text((order, play))), order)

    def test_in_every_guise(self):
        for order in FEW:
            rows = [f"pieces {order[0]}"] + [f"tie {low} {high}" for low, high in order[1]]
            self.gives(order_text, (order,), "\n".join(rows) + "\n")
            for play in plain.all_plays(order)[::7]:
                text = "\n".join(rows + [f"bite {piece}" for piece in play]) + "\n"
                self.gives(sheet_text, ((order, play),), text)
                self.gives(read_sheet, (text,), (order, play))
                self.gives(read_order, (text,), order)
                self.gives(is_sheet, ((order, play),), True)

    def test_blanks_remarks_and_empty_lines(self):
        rng = random.Random(22)
        for order in FEW + plain.random_orders(51, 3, 6, 30):
            for play in plain.all_plays(order)[::50] if order[0] < 5 else [(), (5,), (4, 2)]:
                rows = sheet_text((order, play)).split("\n")
                for _ in range(5):
                    more = []
                    for row in rows:
                        more += rng.choice([[], [""], ["   "], ["# a remark: Tie 0 1", ""], ["#"]])
                        more.append(" " * rng.randrange(3) + row.replace(" ", " " * rng.randrange(1, 4)) + rng.choice(["", " ", "#", " # !pieces 7"]))
                    self.gives(read_sheet, ("\n".join(more),), (order, play))
                    self.gives(read_order, ("\n".join(more),), order)

    def test_faults(self):
        for text, line in FAULTS:
            self.refuses(read_sheet, (text,), f"BadText(line={line})")
            self.refuses(read_order, (text,), f"BadText(line={line})")

    def test_texts_at_random(self):
        rng = random.Random(23)
        words = ["pieces", "tie", "bite", "tie", "bite", "0", "1", "2", "3", "00", "-1", "x"]
        for _ in range(3000):
            rows = [f"pieces {rng.randrange(5)}"]
            for _ in range(rng.randrange(7)):
                kind = rng.choice(["tie", "tie", "tie", "bite"])
                rows.append(" ".join([kind] + [str(rng.randrange(4)) for _ in range(2 if kind == "tie" else 1)]))
            if rng.randrange(3) == 0:
                rows[rng.randrange(len(rows))] = " ".join(rng.choice(words) for _ in range(rng.randrange(4)))
            text = "\n".join(rows)
            self.assertEqual(ended(read_sheet, (text,)), outcome(text), text)

    def test_all_rows_of_ties(self):
        pairs = list(itertools.combinations(range(4), 2))
        for size in range(5):
            for ties in itertools.combinations(pairs, size):
                text = "\n".join(["pieces 4"] + [f"tie {low} {high}" for low, high in ties])
                self.assertEqual(ended(read_sheet, (text,)), outcome(text), text)

    def test_number_words(self):
        self.gives(read_sheet, ("pieces 999999999999",), ((10 ** 12 - 1, ()), ()))
        self.gives(read_sheet, ("pieces 999999999999\ntie 0 999999999998\nbite 999999999998\nbite 7\n",),
                   ((10 ** 12 - 1, ((0, 10 ** 12 - 2),)), (10 ** 12 - 2, 7)))
        self.gives(sheet_text, (((10 ** 12 - 1, ((0, 10 ** 12 - 2),)), (10 ** 12 - 2, 7)),),
                   "pieces 999999999999\ntie 0 999999999998\nbite 999999999998\nbite 7\n")
        for word in ("1000000000000", "0999999999999", "012", "00", "-0", "-", "--1", "1-", "a", "1a", "12-"):
            self.refuses(read_sheet, ("pieces " + word,), "BadText(line=0)")
            self.refuses(read_sheet, ("pieces 2\ntie 0 " + word,), "BadText(line=1)")
            self.refuses(read_sheet, ("pieces 2\n\nbite " + word,), "BadText(line=2)")

    def test_sixty_pieces(self):
        for order in (plain.STALK, plain.STREWN, plain.crown(30), plain.stacked(*[(15, ())] * 4)):
            play = (order[0] - 1, 1, 0) if order[1] else tuple(range(59, -1, -1))
            self.gives(read_sheet, (sheet_text((order, play)),), (order, play))
            text = order_text(order)
            self.refuses(read_sheet, (text + "bite 60",), f"BadText(line={1 + len(order[1])})")
            self.refuses(read_sheet, (text + text,), f"BadText(line={1 + len(order[1])})")


class IsSheet(Case):

    def test_plays_and_what_is_none(self):
        for order in plain.small_orders(3) + [EN]:
            known = set(plain.all_plays(order))
            for size in range(4):
                for play in itertools.product(range(order[0]), repeat=size):
                    self.assertIs(is_sheet((order, play)), play in known)
            self.assertIs(is_sheet([order, ()]), False)
            self.assertIs(is_sheet((list(order), ())), False)
            self.assertIs(is_sheet((order, [])), False)

    def test_whatever_thing_is(self):
        for thing in things():
            self.gives(is_sheet, (thing,), False)
            self.gives(is_sheet, ((thing, ()),), repr(thing) == "(0, ())")
            self.gives(is_sheet, (((2, ()), thing),), repr(thing) in ("()", "(0,)", "(0, 1)", "(1, 0)"))
            self.gives(is_sheet, (((2, ()), (1, thing)),), repr(thing) == "0")
            self.gives(is_sheet, (((2, thing), (1, 0)),), repr(thing) in ("()", "((0, 1),)"))
        for bad in ((FORK,), (FORK, (), ()), (FORK, (0, 1)), (FORK, (1, 1)), (FORK, (3,)), (FORK, (-1,)), (FORK, None), None):
            self.gives(is_sheet, (bad,), False)
        for bad in BAD_ORDERS + NO_END:
            self.assertIs(is_sheet(bad), False)
            self.assertIs(is_sheet((bad, ())), False)
        self.gives(is_sheet, (((10 ** 40, ()), ()),), True)
        self.gives(is_sheet, (((10 ** 40, ()), (10 ** 40 - 1, 0)),), True)
        self.gives(is_sheet, (((10 ** 40, ((0, 10 ** 40 - 1),)), (0, 10 ** 40 - 1)),), False)


class Pictures(Case):

    def test_all_small_orders(self):
        for order in plain.small_orders() + plain.some_orders():
            self.assertEqual(picture(order), drawn(order))
            self.assertEqual(read_picture(picture(order)), order)
        for order in FEW:
            self.gives(picture, (order,), drawn(order))
            self.gives(read_picture, (drawn(order),), order)

    def test_all_pictures_of_up_to_three_lines(self):
        known = {drawn(order): order for order in plain.small_orders(3)}
        for many in range(4):
            for signs in itertools.product("=<>.", repeat=many * many):
                if many < 3 or signs[0] == signs[4] == signs[8] == "=":
                    text = "".join("".join(signs[at:at + many]) + "\n" for at in range(0, many * many, many or 1))
                    told = repr(known[text]) if text in known else "raises CanNot()"
                    self.assertEqual(ended(read_picture, (text,)), told, text)

    def test_no_order_has_it(self):
        for text in ("<\n", ">\n", ".\n", "=.\n.<\n", "==\n==\n", "=>\n<=\n", "=<\n.=\n", "=<\n<=\n", "=.\n>=\n", "=<<\n>=<\n>.=\n",
                     "=<.\n>=<\n.>=\n", "=>.\n<=.\n..=\n"):
            self.refuses(read_picture, (text,), "CanNot()")

    def test_faults(self):
        for text, line in (("\n", 0), ("=", 0), ("x", 0), ("==", 0), ("==\n", 0), ("=<\n>=", 1), ("=\n=", 0), ("=\n=\n", 0), ("=<\n>", 1), ("=<\n>\n", 1),
                           ("=<\n>=\n\n", 0), ("=<<\n>=\n>.=\n", 1), ("=<\n>=.\n", 1), ("=<\n>==\n", 1), ("=< \n>=.\n>.=\n", 0), ("=-\n>=\n", 0),
                           ("= \n =\n", 0), ("=<\n>a\n", 1), ("=<\n\n>=\n", 0), ("=..\n.=.\n..", 2), ("=..\n.=.\n..=", 2), ("=..\n.=.\n.#=\n", 2),
                           ("\n=", 0), ("\n\n", 0), ("<", 0), ("=>\n<=", 1), ("=.\n.=\n\n\n", 0), ("=..\n.=#\n..=", 1), ("#\n", 0)):
            self.refuses(read_picture, (text,), f"BadText(line={line})")

    def test_sixty_pieces(self):
        for order in (plain.STALK, plain.STREWN, plain.crown(30), plain.side_by_side(plain.chain(31), plain.fence(29))):
            self.gives(picture, (order,), drawn(order))
            self.gives(read_picture, (drawn(order),), order)
            self.refuses(read_picture, (drawn(order)[:-1],), f"BadText(line={order[0] - 1})")


class Refused(Case):

    def test_what_is_no_order(self):
        for bad in BAD_ORDERS + NO_END:
            self.unfit(order_text, bad)
            self.unfit(picture, bad)

    def test_what_is_no_sheet(self):
        for bad in BAD_ORDERS + NO_END:
            self.unfit(sheet_text, bad)
            self.unfit(sheet_text, (bad, ()))
            self.unfit(sheet_text, [bad, (0,)])
        for bad in (FORK, (FORK,), (FORK, (), ()), (FORK, None), (FORK, 0), (FORK, (3,)), (FORK, (0, 1)), (FORK, (1, 1)), (FORK, (-1,)),
                    (FORK, (True,)), (FORK, ("0",)), (FORK, (None,)), (FORK, ((0,),)), (FORK, "0"), (FORK, {0}), (ONE, (0, 0)), (EMPTY, (0,)),
                    *[(FORK, own) for own in NO_END]):
            for own in (bad, lists(bad)):
                self.unfit(sheet_text, own)


if __name__ == "__main__":
    unittest.main()
