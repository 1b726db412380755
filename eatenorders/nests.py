"""Nests: words with numbers and nests in them, which TERMS and TREES are.

A nest is a number; or a tuple of "beside" or "stack" and two nests or more; or a tuple of "prime",
an order and nests. It is gone through by its rows, a row for each number and each tuple, ahead of
those of what stands in it: triples of the word ("" for a number), what is told behind it (the
number, the order, or None), and the list of the places of the rows of what stands in it. Nests
may be as deep as they are large, so there is no function here that calls itself.
"""

from eatenorders.forms import is_number, tupled
from eatenorders.orders import greatest_of, least_of

# A list that has itself in it has no end; what is nested deeper than this is taken for such.
MOST_NESTED = 10000


def nest_rows(value, lists):
    """Return the list of the rows of a nest, None if value is none; lists for tuples as told."""
    rows = []
    waiting = [(value, None, 0)]
    while waiting:
        here, outer, depth = waiting.pop()
        opened = row_opened(here, lists)
        if opened is None or depth > MOST_NESTED:
            return None
        word, told, members = opened
        if outer is not None:
            if word != "prime" and word != "" and word == rows[outer][0]:
                return None
            rows[outer][2].append(len(rows))
        waiting.extend([(member, len(rows), depth + 1) for member in reversed(members)])
        rows.append((word, told, []))
    return rows


def row_opened(value, lists):
    """Return the triple of word, what is told, members of a value; None if it begins no nest."""
    if is_number(value):
        return "", value, ()
    if not isinstance(value, tuple) and not (lists and isinstance(value, list)):
        return None
    if len(value) < 3 or not isinstance(value[0], str):
        return None
    if value[0] == "prime":
        return "prime", tupled(value[1], 3) if lists else value[1], value[2:]
    if value[0] == "beside" or value[0] == "stack":
        return value[0], None, value[1:]
    return None


def nest_of(heads, members):
    """Return the nest of which row by row the heads and the lists of members are told.

    The head of a number is it itself, that of a tuple what it begins with, as a tuple.
    """
    found = {}
    for at in range(len(heads) - 1, -1, -1):
        if members[at]:
            found[at] = heads[at] + tuple([found[member] for member in members[at]])
        else:
            found[at] = heads[at]
    return found[0]


def order_of_rows(rows, numbers):
    """Return the ORDER that rows tell, numbers being those of the pieces, row by row."""
    least = {}
    greatest = {}
    ties = []
    for at in range(len(rows) - 1, -1, -1):
        word, told, members = rows[at]
        if word == "":
            least[at] = greatest[at] = [numbers[at]]
        else:
            steps, lowest, uppermost = how_they_stand(word, told, len(members))
            ties.extend([(low, high) for one, other in steps
                         for low in greatest[members[one]] for high in least[members[other]]])
            least[at] = [piece for one in lowest for piece in least[members[one]]]
            greatest[at] = [piece for one in uppermost for piece in greatest[members[one]]]
    many = len([at for at, row in enumerate(rows) if row[0] == ""])
    return many, tuple(sorted(ties))


def how_they_stand(word, told, many):
    """Return the ties, the least and the greatest ones of so many members by their places."""
    if word == "prime":
        return told[1], least_of(told), greatest_of(told)
    if word == "stack":
        return [(at, at + 1) for at in range(many - 1)], [0], [many - 1]
    return [], list(range(many)), list(range(many))
