"""The words of a text, and the numbers that words tell."""

from eatenorders.errors import BadText, Unfit
from eatenorders.forms import is_number_from, is_pair, tupled

FIGURES = "0123456789"
WORD_SIGNS = "abcdefghijklmnopqrstuvwxyz0123456789-"
MOST_FIGURES = 12


def words(text):
    """Return the list of the pairs (word, line) of text; BadText(line) for a fault."""
    found = []
    for line, row in enumerate(text.split("\n")):
        told = row.partition("#")[0]
        for word in told.split(" "):
            if not has_only(WORD_SIGNS, word):
                raise BadText(line)
            if word:
                found.append((word, line))
    return found


def text_of(words):
    """Return the text with each word in its line."""
    own = tupled(words, 2)
    if not are_words(own):
        raise Unfit()
    if not own:
        return ""
    rows = [[] for _ in range(own[-1][1] + 1)]
    for word, line in own:
        rows[line].append(word)
    return "".join([" ".join(row) + "\n" for row in rows])


def number_of(word):
    """Return the number that word tells, None if it is no number word."""
    figures = word.removeprefix("-")
    if not has_only(FIGURES, figures) or not 1 <= len(figures) <= MOST_FIGURES:
        return None
    if figures.startswith("0") and word != "0":
        return None
    return int(word)


def word_of(number):
    """Return the number word of number."""
    return str(number)


def has_only(signs, word):
    """Tell whether each sign of word is one of signs."""
    return all([sign in signs for sign in word])


def are_words(thing):
    """Tell whether thing is a tuple of pairs (word, line), lines never falling."""
    if not isinstance(thing, tuple):
        return False
    least = 0
    for pair in thing:
        if not is_pair(pair) or not is_word(pair[0]) or not is_number_from(least, pair[1]):
            return False
        least = pair[1]
    return True


def is_word(thing):
    """Tell whether thing is one word, and nothing else."""
    return isinstance(thing, str) and thing != "" and has_only(WORD_SIGNS, thing)
