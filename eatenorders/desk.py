"""The desk: an order from which pieces are taken, worked by lines of text."""

from eatenorders.bites import few_lefts, left_by_play, masks_above
from eatenorders.errors import BadText, NothingDone
from eatenorders.masks import mask_of
from eatenorders.orders import fit_order
from eatenorders.signs import number_of, word_of
from eatenorders.worths import worths_by_mask

PLAIN_LINES = ("reply", "left", "worth", "worths", "wins")
MOST_FIGURES = 6


class Desk:
    """An ORDER, the PLAY so far, and what can be taken back and done once more."""

    def __init__(self, order):
        self._order = fit_order(order)
        self._worths = worths_by_mask(self._order, few_lefts(self._order))
        # The PLAY behind each say that did something, as far as it is not taken back.
        self._plays = [()]
        self._taken_back = []

    def say(self, text):
        """Do what the lines of text say; return the tuple of the answers."""
        lines = text.split("\n")
        for at, line in enumerate(lines):
            if not is_line(line):
                raise BadText(at)
        play = self._plays[-1]
        found = []
        for line in lines:
            answer, play = answered(self._order, self._worths, play, line)
            found.append(answer)
        if play != self._plays[-1]:
            self._plays.append(play)
            self._taken_back = []
        return tuple(found)

    def order(self):
        """Return the ORDER."""
        return self._order

    def play(self):
        """Return the PLAY so far."""
        return self._plays[-1]

    def left(self):
        """Return what is left."""
        return left_by_play(self._order, self._plays[-1])

    def undo(self):
        """Take back the last say that did something; return how many pieces the PLAY has then."""
        if len(self._plays) == 1:
            raise NothingDone()
        self._taken_back.append(self._plays.pop())
        return len(self._plays[-1])

    def redo(self):
        """Do what undo took back last once more; return how many pieces the PLAY has then."""
        if not self._taken_back:
            raise NothingDone()
        self._plays.append(self._taken_back.pop())
        return len(self._plays[-1])

    def twin(self):
        """Return another Desk like it, with all that can be taken back and done once more."""
        other = Desk(self._order)
        other._plays = list(self._plays)
        other._taken_back = list(self._taken_back)
        return other

    def __eq__(self, other):
        """Tell whether ORDER and PLAY are equal."""
        return isinstance(other, Desk) and self._order == other._order and self._plays[-1] == other._plays[-1]


def is_line(line):
    """Tell whether line is one of those that the desk knows."""
    return line in PLAIN_LINES or line.startswith("take ") and is_piece_word(line.removeprefix("take "))


def is_piece_word(word):
    """Tell whether word is a number word of 1 to 6 figures."""
    number = number_of(word)
    return number is not None and number >= 0 and len(word) <= MOST_FIGURES


def answered(order, worths, play, line):
    """Return the answer to a line, and the PLAY behind it, worths being the WORTHS by masks."""
    left = left_by_play(order, play)
    if line.startswith("take "):
        return taken(order[0], left, play, number_of(line.removeprefix("take ")))
    if line == "left":
        return row_of(left), play
    mask = mask_of(left)
    if line == "worth":
        return word_of(worths[mask]), play
    above = masks_above(order)
    behind = [(piece, worths[mask & ~above[piece]]) for piece in left]
    if line == "worths":
        return row_of(sorted(set([number for _, number in behind]))), play
    wins = [piece for piece, number in behind if number == 0]
    if line == "wins":
        return row_of(wins), play
    return (word_of(wins[0]), play + (wins[0],)) if wins else ("lost", play)


def taken(many, left, play, piece):
    """Return the answer to a take of piece, and the PLAY behind it."""
    if piece >= many:
        return "no piece", play
    if piece not in left:
        return "gone", play
    return "done", play + (piece,)


def row_of(numbers):
    """Return the words of numbers, parted by blanks, "none" without."""
    return " ".join([word_of(number) for number in numbers]) if numbers else "none"
