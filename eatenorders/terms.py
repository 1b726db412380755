"""Terms: orders without an N, told as pieces beside one another and stacked."""

from eatenorders.decomposing import strong_rows
from eatenorders.errors import CanNot, TooMany, Unfit
from eatenorders.forms import fit_number_from, is_row_below
from eatenorders.masks import bits_of, least_in, links_of
from eatenorders.nests import nest_of, nest_rows, order_of_rows
from eatenorders.orders import fit_order
from eatenorders.sets import least_lacking, sets_beside, stacked_sets

MOST_COUNTED = 300


def is_term(thing):
    """Tell whether thing is a TERM."""
    return are_term_rows(nest_rows(thing, False))


def size_of(term):
    """Return how many pieces term has."""
    return len(leaves_of(fit_term(term)))


def term_of(order):
    """Return the TERM of order; CanNot() if it has an N, or no pieces."""
    rows = strong_rows(fit_order(order))
    words = [row[0] for row in rows]
    if not rows or "prime" in words:
        raise CanNot()
    return nest_of([(word,) if word else 1 for word in words], [row[2] for row in rows])


def order_of(term):
    """Return the ORDER of term."""
    rows = fit_term(term)
    return order_of_rows(rows, {at: piece for piece, at in enumerate(leaves_of(rows))})


def an_n(order):
    """Return the least N of order; CanNot() if it has none."""
    own = fit_order(order)
    above, under = links_of(own)
    whole = (1 << own[0]) - 1
    beside = [whole & ~(high | low | (1 << piece)) for piece, (high, low) in enumerate(zip(above, under))]
    for first in range(own[0]):
        for second in bits_of(beside[first]):
            for third in bits_of(above[first] & above[second]):
                fourth = above[second] & beside[first] & beside[third]
                if fourth:
                    return first, second, third, least_in(fourth)
    raise CanNot()


def is_n(order, thing):
    """Tell whether thing is an N of order."""
    own = fit_order(order)
    if not isinstance(thing, tuple) or len(thing) != 4 or not is_row_below(own[0], thing):
        return False
    above, _ = links_of(own)
    ties = [(low, high) for low in thing for high in thing if (above[low] >> high) & 1]
    first, second, third, fourth = thing
    return len(set(thing)) == 4 and sorted(ties) == sorted([(first, third), (second, third), (second, fourth)])


def set_of_term(term):
    """Return the SET of the ORDER of term."""
    return set_of_rows(fit_term(term))


def worth_of_term(term):
    """Return the WORTH of the ORDER of term."""
    return least_lacking(set_of_rows(fit_term(term)))


def turned_term(term):
    """Return the TERM with each "stack" turned about."""
    rows = fit_term(term)
    members = [row[2][::-1] if row[0] == "stack" else row[2] for row in rows]
    return nest_of([(word,) if word else 1 for word, _, _ in rows], members)


def are_alike_terms(term, other):
    """Tell whether both have alike ORDERS."""
    own = fit_term(term)
    others = fit_term(other)
    names = {}
    return shape_named(own, names) == shape_named(others, names)


def how_many_terms(many):
    """Return how many TERMS of many pieces there are, no two of alike ORDERS."""
    fit_number_from(0, many)
    if many > MOST_COUNTED:
        raise TooMany()
    return terms_counted(many)[many]


def are_term_rows(rows):
    """Tell whether rows of a nest, or None, are those of a TERM."""
    if rows is None:
        return False
    return all([told == 1 if word == "" else word != "prime" for word, told, _ in rows])


def fit_term(term):
    """Return the rows of term; Unfit() if it is no TERM."""
    rows = nest_rows(term, True)
    if not are_term_rows(rows):
        raise Unfit()
    return rows


def leaves_of(rows):
    """Return the list of the places of the rows of single pieces."""
    return [at for at, row in enumerate(rows) if row[0] == ""]


def set_of_rows(rows):
    """Return the SET of the ORDER that rows of a TERM tell."""
    found = {}
    for at in range(len(rows) - 1, -1, -1):
        word, _, members = rows[at]
        found[at] = () if word else (0,)
        for member in members:
            if word == "stack":
                found[at] = stacked_sets(found[at], found[member])
            else:
                found[at] = sets_beside(found[at], found[member])
    return found[0]


def shape_named(rows, names):
    """Return the number, from names, of the shape that rows of a TERM tell; new ones are put in.

    TERMS are of one shape if they are one but for the order of the members of each "beside".
    """
    found = {}
    for at in range(len(rows) - 1, -1, -1):
        word, _, members = rows[at]
        inner = [found[member] for member in members]
        shape = (word,) + tuple(sorted(inner) if word == "beside" else inner)
        found[at] = names.setdefault(shape, len(names))
    return found[0]


def terms_counted(many):
    """Return the list of how many TERMS there are of 0 to many pieces.

    A "stack" is one that is none and a TERM stacked on it. A "beside" is a lot of TERMS that are
    none: all lots of so many pieces, each one as often as it has pieces, are told by one of them
    at a time, taken some times (Euler's transform).
    """
    every = [0, 1]
    no_stack = [0, 1]
    no_beside = [0, 1]
    taken = [0, 1]
    for size in range(2, many + 1):
        stacks = sum([no_stack[low] * every[size - low] for low in range(1, size)])
        shared = sum([part * no_beside[part] for part in range(1, size) if size % part == 0])
        lots = shared + sum([taken[part] * every[size - part] for part in range(1, size)])
        every.append(stacks + lots // size)
        no_stack.append(lots // size)
        no_beside.append(stacks)
        taken.append(shared + size * stacks)
    return every
