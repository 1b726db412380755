"""What is asked of every function of the interface, and the examples of the document."""

import inspect
import unittest

from eatenorders import errors

ATTRIBUTES = {"NoPiece": ("piece",), "NothingDone": (), "BadText": ("line",), "Broken": ("number",),
              "CanNot": (), "TooMany": (), "Unfit": ()}

# A float, a string, a truth value, a number in a tuple: none of them is a number.
NO_NUMBERS = (True, False, None, "1", "", 1.0, (), (1,), [1], {1: 1}, {1}, b"1")

BAD_ORDERS = (
    None, True, 0, 3, "", "ab", "(0, ())", {}, {0, 1}, {0: 1, 1: ()}, 1.5, (), [], (0,), (1, (), ()), [1, (), ()],
    ((), 0), (-1, ()), (True, ()), (False, ()), (None, ()), ("1", ()), (1.0, ()), ((1,), ()),
    (2, None), (2, True), (2, 0), (2, ""), (2, "ab"), (2, {}), (2, {(0, 1)}), (2, {(0, 1): 0}),
    (2, (0, 1)), (2, ((0,),)), (2, ((0, 1, 1),)), (2, (None,)), (2, ("01",)), (2, ({0, 1},)), (2, (({0}, 1),)),
    (2, ((0, True),)), (2, ((False, 1),)), (2, ((0, "1"),)), (2, ((0, None),)), (2, ((0, 1.0),)), (2, (((0,), 1),)),
    (2, ((1, 0),)), (2, ((0, 0),)), (2, ((1, 1),)), (2, ((0, 2),)), (2, ((2, 3),)), (2, ((-1, 1),)), (2, ((-2, -1),)),
    (0, ((0, 1),)), (1, ((0, 1),)), (3, ((0, 1), (0, 1))), (3, ((1, 2), (0, 1))), (3, ((0, 2), (0, 1))),
    (3, ((0, 1), (0, 2), (1, 2))), (4, ((0, 1), (0, 3), (1, 2), (2, 3))), (5, ((0, 1), (0, 2), (0, 4), (1, 3), (3, 4))),
    (4, ((0, 1), (0, 2), (0, 3), (1, 2))), (6, ((0, 1), (1, 2), (2, 3), (2, 5), (3, 4), (4, 5))))


def endless(*parts):
    """A list of parts that has itself as its last one."""
    own = list(parts)
    own.append(own)
    return own


def deep(value, times):
    """value in so many lists, one in another."""
    for _ in range(times):
        value = [value]
    return value


# Whatever is passed in must not be gone through to its end: there is none, or it is far down.
NO_END = (endless(), endless(0), endless(2), endless(0, 1), [2, endless()], [2, [endless(0)]], [2, [[0, endless()]]],
          (2, (endless(),)), [endless(), []], deep(0, 20000), [deep(0, 20000), []], [2, deep(0, 20000)],
          [2, [deep(0, 20000)]], [2, [[0, deep(1, 20000)]]], [2, [[0, 1, deep(0, 20000)]]])

# No LEFTS of an N, plain.ENN.
NO_LEFTS = (None, True, 0, "", "0", {}, {0}, 1.5, (0, 0), (1, 0), (4,), (0, 4), (-1,), (True,), (0, True), (None,), ("0",), (1.0,),
            ((0,),), ((),), (2,), (0, 2), (3,), (0, 3), (1, 2), *NO_END)


def lists(value):
    """value with lists for tuples, at every depth."""
    return [lists(part) for part in value] if isinstance(value, tuple) else value


def turn_about(value, depth=0):
    """value with lists for the tuples at every second depth."""
    if not isinstance(value, tuple):
        return value
    parts = [turn_about(part, depth + 1) for part in value]
    return parts if depth % 2 == 0 else tuple(parts)


def ended(function, args=(), more=None):
    """What comes of a call: its value, or the error with its attributes, as a text that tells kinds."""
    try:
        return repr(function(*args, **(more or {})))
    except (LookupError, ValueError) as error:
        return raised(error)


def raised(error):
    """The text of an error of the package with its attributes."""
    name = type(error).__name__
    if type(error) is not getattr(errors, name, None):
        raise error
    told = ", ".join(f"{own}={getattr(error, own)!r}" for own in ATTRIBUTES[name])
    return f"raises {name}({told})"


class Case(unittest.TestCase):
    """A test with questions that fit every function."""

    maxDiff = None

    def gives(self, function, args, expected):
        """The call gives expected, of the very kinds, in every guise of its arguments."""
        self.in_every_guise(function, args, repr(expected))

    def refuses(self, function, args, told):
        """The call raises the error, told as "Unfit()", in every guise of its arguments."""
        self.in_every_guise(function, args, "raises " + told)

    def in_every_guise(self, function, args, expected):
        names = list(inspect.signature(function).parameters)
        free = [name == "thing" for name in names]
        for guise in (lambda value: value, lists, turn_about):
            own = [arg if fixed else guise(arg) for arg, fixed in zip(args, free)]
            before = repr(own)
            self.assertEqual(ended(function, own), expected, (function.__name__, own))
            self.assertEqual(ended(function, (), dict(zip(names, own))), expected, (function.__name__, own))
            self.assertEqual(repr(own), before, function.__name__)
        self.gives_new_lists(function, args, expected)

    def gives_new_lists(self, function, args, expected):
        if not expected.startswith("["):
            return
        first = function(*args)
        second = function(*args)
        self.assertIsNot(first, second)
        first.append(None)
        first.reverse()
        self.assertEqual(repr(second), expected)
        self.assertEqual(ended(function, args), expected)

    def unfit(self, function, *args):
        """The call raises Unfit() and nothing else."""
        self.assertEqual(ended(function, args), "raises Unfit()", (function.__name__, args))

    def examples(self, text, names):
        """The examples in text, as they stand in the document, hold; names is told what they set."""
        rows = [row.strip() for row in text.strip().split("\n")]
        for at, row in enumerate(rows):
            if row.startswith(">>> "):
                shown = rows[at + 1] if at + 1 < len(rows) and not rows[at + 1].startswith(">>> ") else None
                self.example(row[4:], shown, names)

    def example(self, code, shown, names):
        with self.subTest(code):
            if shown is None:
                exec(code, names)
            elif shown.startswith("raises "):
                self.assertEqual(ended(lambda: eval(code, names)), shown)
            else:
                self.assertEqual(repr(eval(code, names)), repr(eval(shown, {})))


def deep_tuple(value, times):
    """value in so many tuples, one in another."""
    for _ in range(times):
        value = (value,)
    return value


def things():
    """Values of every kind that a thing may be, whatever it is asked to be."""
    plain = [0, 1, 2, -1, 10 ** 40, -10 ** 40, True, False, None, "", "a", "0", "01", "piece", "x" * 5000]
    nested = [(), [], (0,), [0], (0, 1), [0, 1], (1, 0), ((),), [[]], ((0, 1),), (0, ()), [0, []], (True,), (None,),
              ("0",), ("", ""), (0, 1, 2, 3), (0, (0, 1)), ((0, 1), (0, 1)), (1, 1), (0, True), (False, 1), (-1,), (0, -1),
              tuple(range(100)), list(range(100)), (10 ** 40,), (0, 10 ** 40), (0,) * 1000]
    stacks = [deep(0, 20), deep_tuple(0, 20), deep((), 19), deep_tuple([], 19), deep_tuple((0, ()), 18),
              (0, deep_tuple(0, 19)), (2, deep_tuple((0, 1), 19)), (deep_tuple(0, 19), ())]
    return plain + nested + stacks
