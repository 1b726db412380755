"""One judge: demands, papers against those that do not stand, and reasons for those that do."""

from eatenorders.bites import is_left_of
from eatenorders.companies import inside, is_company, taken_out
from eatenorders.decomposing import unlike_to
from eatenorders.errors import Unfit
from eatenorders.exchange import is_parting, parting, same_everywhere
from eatenorders.forms import is_number, is_number_from, is_pair, is_row_below, is_set_below, tupled
from eatenorders.great import great_set
from eatenorders.masks import least_in, links_of, mask_of
from eatenorders.modules import is_module
from eatenorders.orders import is_order
from eatenorders.papers import answers, is_answers, is_paper, paper_of
from eatenorders.primes import widest_prime
from eatenorders.terms import an_n, is_n, is_term, term_of
from eatenorders.worths import is_won, worth_and_bites, worth_left


def is_demand(thing):
    """Tell whether thing is a DEMAND."""
    return is_demand_told(thing)


def is_so(demand):
    """Tell whether demand stands."""
    return stands(fit_demand(demand))


def paper_against(demand):
    """Return a PAPER against demand, None if it stands."""
    own = fit_demand(demand)
    if stands(own):
        return None
    word, order = own[:2]
    if word == "won":
        return answers(order, own[2])
    if word == "worth":
        return worth_left(order, own[2])
    if word == "same":
        return parting(order, own[2])
    return first_unlike_three(order, own[2]) if word == "module" else an_n(order)


def is_paper_against(demand, thing):
    """Tell whether thing is a PAPER against demand."""
    own = fit_demand(demand)
    word, order = own[:2]
    if word == "won":
        return is_answers(order, own[2], thing)
    if word == "worth":
        least = worth_left(order, own[2])
        return is_number(thing) and thing == least and least < own[3]
    if word == "same":
        return is_parting(order, own[2], thing)
    return are_unlike_three(order, own[2], thing) if word == "module" else is_n(order, thing)


def reason_for(demand):
    """Return a REASON for demand, None if it does not stand."""
    own = fit_demand(demand)
    if not stands(own):
        return None
    word, order = own[:2]
    if word == "won":
        return paper_of(order, own[2])
    if word == "worth":
        return bites_to_each(order, own[2], own[3])
    if word == "same":
        return great_set(order)
    return module_reason(order, own[2]) if word == "module" else term_of(order)


def is_reason_for(demand, thing):
    """Tell whether thing is a REASON for demand."""
    own = fit_demand(demand)
    word, order = own[:2]
    if not stands(own):
        return False
    if word == "won":
        return is_paper(order, own[2], thing)
    if word == "worth":
        return are_bites_to_each(order, own[2], own[3], thing)
    if word == "same":
        return is_this_set(great_set(order), thing)
    if word == "module":
        return is_module_reason(order, own[2], thing)
    return is_term(thing) and thing == term_of(order)


def first_fallen(demands):
    """Return the number of the first of demands that does not stand, None if all stand."""
    own = tupled(demands, 5)
    if not isinstance(own, tuple) or not all([is_demand_told(demand) for demand in own]):
        raise Unfit()
    for number, demand in enumerate(own):
        if not stands(demand):
            return number
    return None


def fit_demand(demand):
    """Return demand with tuples for lists; Unfit() if it is no DEMAND."""
    own = tupled(demand, 4)
    if not is_demand_told(own):
        raise Unfit()
    return own


def is_demand_told(thing):
    """Tell whether thing is a DEMAND."""
    if not isinstance(thing, tuple) or len(thing) < 2 or not is_order(thing[1]):
        return False
    word, order = thing[:2]
    told = thing[2:]
    if word == "term":
        return not told and order[0] > 0
    if word == "worth":
        return len(told) == 2 and is_left_of(order, told[0]) and is_number_from(0, told[1])
    if len(told) != 1:
        return False
    if word == "won":
        return is_left_of(order, told[0])
    if word == "same":
        return is_order(told[0])
    return word == "module" and is_set_below(order[0], told[0]) and told[0] != ()


def stands(demand):
    """Tell whether a DEMAND that is known to be one stands."""
    word, order = demand[:2]
    if word == "won":
        return is_won(order, demand[2])
    if word == "worth":
        return worth_left(order, demand[2]) >= demand[3]
    if word == "same":
        return same_everywhere(order, demand[2])
    if word == "module":
        return is_module(order, demand[2])
    # There is an N exactly if there is a prime part.
    return widest_prime(order) == 0


def bites_to_each(order, left, number):
    """Return a piece of left for each WORTH below number, at which a BITE leaves it."""
    _, bites = worth_and_bites(order, left)
    pieces = {behind: piece for piece, behind in bites}
    return tuple([pieces[behind] for behind in range(number)])


def are_bites_to_each(order, left, number, thing):
    """Tell whether thing are a piece of left for each WORTH below number, at which a BITE leaves it."""
    _, bites = worth_and_bites(order, left)
    behind = dict(bites)
    if not is_row_below(order[0], thing) or not all([piece in behind for piece in thing]):
        return False
    return [behind[piece] for piece in thing] == list(range(number))


def is_this_set(worths, thing):
    """Tell whether thing is the set worths."""
    return isinstance(thing, tuple) and all([is_number(number) for number in thing]) and thing == worths


def first_unlike_three(order, pieces):
    """Return two of pieces, no MODULE, and a piece that lies otherwise to the one than to the other."""
    links = links_of(order)
    mask = mask_of(pieces)
    other = least_in(unlike_to(links, mask) & ~mask)
    unlike = [piece for piece in pieces if how_it_lies(links, other, piece) != how_it_lies(links, other, pieces[0])]
    return pieces[0], unlike[0], other


def are_unlike_three(order, pieces, thing):
    """Tell whether thing are two of pieces, ascending, and another piece that lies unlike to them."""
    if not is_row_below(order[0], thing) or len(thing) != 3:
        return False
    one, two, other = thing
    if one not in pieces or two not in pieces or one >= two or other in pieces:
        return False
    links = links_of(order)
    return how_it_lies(links, other, one) != how_it_lies(links, other, two)


def how_it_lies(links, piece, other):
    """Return how piece lies to other: whether above it, and whether under it."""
    above, under = links
    return (above[other] >> piece) & 1, (under[other] >> piece) & 1


def module_reason(order, module):
    """Return the pair of the COMPANY around a MODULE and the ORDER inside."""
    return taken_out(order, module), inside(order, module)


def is_module_reason(order, module, thing):
    """Tell whether thing is the pair of the COMPANY around a MODULE and the ORDER inside."""
    if not is_pair(thing) or not is_company(thing[0]) or not is_order(thing[1]):
        return False
    return thing == module_reason(order, module)
