"""The search for the cheapest plan."""

from lookdown.errors import TooMany
from lookdown.plans import check_wishes
from lookdown.things import makeable, needs_for, usable_ways, way_price
from lookdown.webs import below


def cheapest(book, web, wishes):
    """The pair of the least price of a plan for wishes and such a plan."""
    check_wishes(book, web, wishes)
    things = things_below(book, web, wishes, 14)
    prices, lasts = least_prices(book, web, things)
    made = _least_mask(prices, mask_of(things, wishes))
    return (prices[made], _plan_of(things, lasts, made))


def things_below(book, web, wishes, most):
    """The makeable things of the values that those of the wishes are made of: at most so many."""
    values = {}
    for value, _ in wishes:
        for each in below(web, value):
            values[each] = True
    things = [thing for thing in makeable(book, web) if thing[0] in values]
    if len(things) > most:
        raise TooMany(most)
    return things


def mask_of(things, some):
    """The mask with a bit for each of some of the things, by their places."""
    return sum([1 << things.index(thing) for thing in some])


def options_of(book, web, things, thing):
    """The usable ways of a thing, the cheapest first: triples of price, mask of what it needs, way."""
    found = []
    for way in usable_ways(book, web, thing, things):
        mask = mask_of(things, needs_for(book, web, thing, way))
        found.append((way_price(book, way), mask, way))
    return sorted(found)


def least_prices(book, web, things):
    """For each mask of things the least price of making just these, and the last making then.

    The things are all makeable ones of some values and of all that these are made of. The
    price is None where no row of makings makes just these.
    """
    options = [options_of(book, web, things, thing) for thing in things]
    size = 1 << len(options)
    prices = [0] + [None] * (size - 1)
    lasts = [None] * size
    # A making adds a bit, so a mask is done with before a greater one is come to.
    for made in range(size):
        if prices[made] is not None:
            for at, cost, way in next_makings(options, made):
                grown = made | (1 << at)
                if prices[grown] is None or prices[made] + cost < prices[grown]:
                    prices[grown] = prices[made] + cost
                    lasts[grown] = (at, way)
    return (prices, lasts)


def next_makings(options, made):
    """For each thing that can be made next its number, the price and the cheapest way."""
    found = []
    for at, ways_here in enumerate(options):
        if not (made >> at) & 1:
            for cost, mask, way in ways_here:
                if (mask & made) == mask:
                    found.append((at, cost, way))
                    break
    return found


def _least_mask(prices, wanted):
    """The mask of the least price that holds all that is wanted."""
    best = None
    for made, cost in enumerate(prices):
        if (made & wanted) == wanted and cost is not None:
            if best is None or cost < prices[best]:
                best = made
    return best


def _plan_of(things, lasts, made):
    """The makings of a mask, found from the last one on."""
    makings = []
    while made:
        at, way = lasts[made]
        value, kind = things[at]
        makings.append((value, kind, way))
        made = made - (1 << at)
    return tuple(reversed(makings))
