"""Texts of an order and a play of it, and pictures of an order, told and read."""

from eatenorders.bites import bite_off, is_play_of
from eatenorders.errors import BadText, CanNot, Unfit
from eatenorders.forms import is_pair, tupled
from eatenorders.masks import links_of
from eatenorders.orders import fit_order, is_order, is_pair_below, mark_led_to, order_led_by, ties_up
from eatenorders.signs import has_only, number_of, word_of, words

PICTURE_SIGNS = "=<>."


def is_sheet(thing):
    """Tell whether thing is a SHEET."""
    return is_pair(thing) and is_order(thing[0]) and is_play_of(thing[0], thing[1])


def sheet_text(sheet):
    """Return the text of sheet."""
    own = tupled(sheet, 4)
    if not is_sheet(own):
        raise Unfit()
    return text_told(own)


def read_sheet(text):
    """Return the SHEET of text; BadText(line) for the first fault."""
    return sheet_read(text)


def order_text(order):
    """Return the text of the SHEET of order without a BITE."""
    return text_told((fit_order(order), ()))


def read_order(text):
    """Return the ORDER of the SHEET of text; BadText(line) for the first fault."""
    return sheet_read(text)[0]


def picture(order):
    """Return the picture of order."""
    return picture_told(fit_order(order))


def read_picture(text):
    """Return the ORDER with this picture; BadText(line) for a fault, CanNot() if there is none."""
    lines = text.split("\n")
    rows = lines[:-1] if lines[-1] == "" else lines
    for line, row in enumerate(rows):
        if len(row) != len(rows) or not has_only(PICTURE_SIGNS, row):
            raise BadText(line)
    if len(rows) == len(lines):
        raise BadText(len(rows) - 1)
    pairs = [(low, high) for low, row in enumerate(rows) for high, sign in enumerate(row)
             if sign == "<" and low < high]
    order = order_led_by(len(rows), pairs)
    if picture_told(order) != text:
        raise CanNot()
    return order


def text_told(sheet):
    """Return the text of a SHEET that is known to be one."""
    (many, ties), play = sheet
    rows = [("pieces", many)]
    rows.extend([("tie",) + tie for tie in ties])
    rows.extend([("bite", piece) for piece in play])
    return "".join([" ".join([row[0]] + [word_of(number) for number in row[1:]]) + "\n" for row in rows])


def sheet_read(text):
    """Return the SHEET of text; BadText(line) for the first fault."""
    rows = rows_of(text)
    if not rows:
        raise BadText(0)
    many = numbers_read("pieces", 1, rows[0])[0]
    if many < 0:
        raise BadText(rows[0][0])
    begin = 1
    while begin < len(rows) and rows[begin][1][0] == "tie":
        begin += 1
    ties = ties_read(many, rows[1:begin])
    return (many, ties), play_read(many, ties, rows[begin:])


def rows_of(text):
    """Return the list of the pairs of a line and the list of its words, for lines with words."""
    rows = []
    for word, line in words(text):
        if not rows or rows[-1][0] != line:
            rows.append((line, []))
        rows[-1][1].append(word)
    return rows


def numbers_read(word, many, row):
    """Return the list of the numbers of a row of word and so many number words; BadText(line) else."""
    line, told = row
    numbers = [number_of(own) for own in told[1:]]
    if told[0] != word or len(numbers) != many or None in numbers:
        raise BadText(line)
    return numbers


def ties_read(many, rows):
    """Return the ties that rows tell; BadText(line) for the first that cannot stand there."""
    lower = {}
    ties = []
    for row in rows:
        low, high = numbers_read("tie", 2, row)
        if not is_pair_below(many, (low, high)) or ties and (low, high) <= ties[-1]:
            raise BadText(row[0])
        # Ties ascend: none leads up from above low yet, so none but one to high can follow now.
        ahead = set(mark_led_to(lower, low, many, {}))
        if any([other in ahead for other in lower.get(high, ())]):
            raise BadText(row[0])
        ties.append((low, high))
        lower.setdefault(high, []).append(low)
    return tuple(ties)


def play_read(many, ties, rows):
    """Return the PLAY that rows tell; BadText(line) for the first that cannot stand there."""
    upper = ties_up(ties)
    gone = {}
    play = []
    for row in rows:
        piece = numbers_read("bite", 1, row)[0]
        if not 0 <= piece < many or piece in gone:
            raise BadText(row[0])
        bite_off(upper, many, piece, gone)
        play.append(piece)
    return tuple(play)


def picture_told(order):
    """Return the picture of an ORDER that is known to be one."""
    above, under = links_of(order)
    places = list(range(order[0]))
    rows = ["".join([sign_of(above[piece], under[piece], piece, other) for other in places]) for piece in places]
    return "".join([row + "\n" for row in rows])


def sign_of(above, under, piece, other):
    """Return the sign of other in the line of piece, by the masks of what lies above and under this."""
    if piece == other:
        return "="
    if (above >> other) & 1:
        return "<"
    return ">" if (under >> other) & 1 else "."
