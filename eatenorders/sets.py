"""Sets of worths: those of orders stacked, and of orders beside one another."""

from eatenorders.errors import CanNot, Unfit
from eatenorders.forms import fit_number_from, is_ascending, is_number_from, tupled


def lacking(worths, number):
    """Return the number-th, from 0, of the numbers that worths lacks."""
    own = fit_set(worths)
    fit_number_from(0, number)
    return lacking_at(own, (number,))[0]


def place_of(worths, number):
    """Return as the how-manieth, from 0, number comes among those that worths lacks."""
    own = fit_set(worths)
    fit_number_from(0, number)
    if number in own:
        raise CanNot()
    return places_among(own, (number,))[0]


def worth_by_set(worths):
    """Return the least number that worths lacks."""
    return least_lacking(fit_set(worths))


def set_stacked(worths, other):
    """Return the SET of two ORDERS stacked, worths that of the lower one."""
    own = fit_set(worths)
    return stacked_sets(own, fit_set(other))


def set_beside(worths, other):
    """Return the SET of two ORDERS beside one another."""
    own = fit_set(worths)
    return sets_beside(own, fit_set(other))


def set_off(whole, worths):
    """Return the set such that whole is that of it stacked on worths; CanNot() without."""
    own = fit_set(whole)
    lower = fit_set(worths)
    if without(lower, own):
        raise CanNot()
    return tuple(places_among(lower, without(own, lower)))


def first_unlike(worths, other):
    """Return the least place at which unlike numbers are lacking; CanNot() if both are one."""
    own = fit_set(worths)
    return unlike_place(own, fit_set(other))


def set_of_many(worths, many):
    """Return the SET of many ORDERS with this SET, all beside one another."""
    own = fit_set(worths)
    fit_number_from(0, many)
    if many == 0:
        return ()
    # Of the others two and two make 0, and one stays if many is even.
    return own if many % 2 == 1 else moved_by(own, least_lacking(own))


def fit_set(worths):
    """Return worths with tuples for lists; Unfit() if they are no set of numbers from 0."""
    own = tupled(worths, 1)
    if not isinstance(own, tuple) or not all([is_number_from(0, number) for number in own]):
        raise Unfit()
    if not is_ascending(own):
        raise Unfit()
    return own


def lacking_at(worths, places):
    """Return the list of the numbers that a set lacks at these places, ascending ones."""
    found = []
    at = 0
    for place in places:
        while at < len(worths) and worths[at] <= place + at:
            at += 1
        found.append(place + at)
    return found


def places_among(worths, numbers):
    """Return the list of the places of numbers, ascending ones, among those that a set lacks."""
    found = []
    at = 0
    for number in numbers:
        while at < len(worths) and worths[at] < number:
            at += 1
        found.append(number - at)
    return found


def least_lacking(worths):
    """Return the least number that a set lacks."""
    return lacking_at(worths, (0,))[0]


def stacked_sets(worths, other):
    """Return the SET of two stacked, of sets known to be such, the lower one's first."""
    return tuple(sorted(worths + tuple(lacking_at(worths, other))))


def sets_beside(worths, other):
    """Return the SET of two beside one another, of sets known to be such."""
    own = moved_by(worths, least_lacking(other))
    return tuple(sorted(set(own + moved_by(other, least_lacking(worths)))))


def moved_by(worths, number):
    """Return the set of the numbers of worths, each by exclusive or with number."""
    return tuple(sorted([own ^ number for own in worths]))


def without(worths, other):
    """Return the numbers of worths that other has not."""
    barred = set(other)
    return tuple([number for number in worths if number not in barred])


def unlike_place(worths, other):
    """Return the first place at which two sets lack unlike numbers; CanNot() if they are one."""
    if worths == other:
        raise CanNot()
    first = min(without(worths, other) + without(other, worths))
    # Below the first number that one has alone both are one, and the other lacks it.
    return first - len([number for number in worths if number < first])
