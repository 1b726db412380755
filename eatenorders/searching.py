"""The search of a PRIME part: its MODULES stand in it as pieces do.

A MODULE that is whole is told by its SET. One that was bitten has nothing above it, so it is told
by its WORTH alone, as a heap that stands on the whole ones under it (its base, a mask), and heaps
on one base are one heap, by exclusive or. A state is the mask of the whole MODULES and the
ascending tuple of the pairs (base, number) of the heaps, no number 0.
"""

from eatenorders.masks import bits_of, links_of, mask_of


def search_in(order, sets):
    """Return what a search in a PRIME ORDER, with such SETS for its pieces, goes by and finds."""
    above, under = links_of(order)
    return {"above": above, "under": under, "sets": sets, "knots": {}, "worths": {}}


def worth_bitten(search, place, number):
    """Return the WORTH behind a first BITE, that leaves number of the MODULE there."""
    return worth_behind_bite(search, (1 << len(search["sets"])) - 1, (), place, number)


def worth_of_parts(search, wholes, parts):
    """Return the WORTH of what is left, told for each MODULE: whether it is whole, and its WORTH."""
    places = [place for place, whole in enumerate(wholes) if whole]
    heaps = [(search["under"][place], number) for place, number in enumerate(parts) if not wholes[place]]
    return worth_of_state(search, mask_of(places), heaped(heaps))


def worth_behind_bite(search, whole, heaps, place, number):
    """Return the WORTH behind a BITE in a whole MODULE that leaves number of it."""
    gone = search["above"][place] | (1 << place)
    stay = [(base, own) for base, own in heaps if not (base >> place) & 1]
    return worth_of_state(search, whole & ~gone, heaped(stay + [(search["under"][place], number)]))


def heaped(heaps):
    """Return the heaps of a state, of a list of such pairs."""
    found = {}
    for base, number in heaps:
        found[base] = found.get(base, 0) ^ number
    return tuple(sorted([(base, number) for base, number in found.items() if number > 0]))


def worth_of_state(search, whole, heaps):
    """Return the WORTH of a state: of its knots, put together by exclusive or."""
    total = 0
    for knot, places in knots_of_state(search, whole, tuple([base for base, _ in heaps])):
        own = tuple([heaps[place] for place in places])
        total ^= worth_of_knot(search, knot, own) if knot else own[0][1]
    return total


def worth_of_knot(search, whole, heaps):
    """Return the WORTH of a state that hangs together.

    What can be left of a heap or a MODULE is asked for from the least on, so that but little of
    what is asked for is not known yet: no more calls lie one in another than a few for each piece
    of the PRIME ORDER.
    """
    worths = search["worths"]
    if (whole, heaps) in worths:
        return worths[whole, heaps]
    behind = set()
    for at, (base, number) in enumerate(heaps):
        ahead, after = heaps[:at], heaps[at + 1:]
        behind.add(worth_of_state(search, whole, ahead + after))
        for less in range(1, number):
            behind.add(worth_of_knot(search, whole, ahead + ((base, less),) + after))
    for place in bits_of(whole):
        for number in search["sets"][place]:
            behind.add(worth_behind_bite(search, whole, heaps, place, number))
    worth = 0
    while worth in behind:
        worth += 1
    worths[whole, heaps] = worth
    return worth


def knots_of_state(search, whole, bases):
    """Return the list of what hangs together: pairs of a mask and the places of its bases.

    A base of nothing hangs together with nothing: its pair has the mask 0.
    """
    known = search["knots"]
    if (whole, bases) not in known:
        known[whole, bases] = knots_found(search["under"], whole, bases)
    return known[whole, bases]


def knots_found(under, whole, bases):
    """Return what knots_of_state tells, found anew."""
    joined = []
    for mask in [(1 << place) | under[place] for place in bits_of(whole)] + list(bases):
        grown = mask
        for knot in joined:
            if knot & mask:
                grown |= knot
        joined = [knot for knot in joined if not knot & mask] + [grown]
    return [(knot, [at for at, base in enumerate(bases) if base & knot or base == knot]) for knot in joined]
