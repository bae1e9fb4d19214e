"""Fences: lots of things with prices, below which no plan for wishes can come."""

from lookdown.checks import is_integer, is_tuple_of
from lookdown.choices import check_choice, links_of, needed_by
from lookdown.errors import NoFences
from lookdown.plans import check_wishes, is_lot_of
from lookdown.things import makeable, needs_for, usable_ways, way_price
from lookdown.webs import check_web


def is_fences(book, web, thing):
    """Whether a thing is a list or tuple of fences that no usable way enters for more than its price."""
    check_web(book, web)
    made = {each: True for each in makeable(book, web)}
    if not (isinstance(thing, (list, tuple)) and all([_is_fence(book, web, made, fence) for fence in thing])):
        return False
    holding = _masks_holding(made, thing)
    prices = [price for _, price in thing]
    for target in made:
        for way in usable_ways(book, web, target, made):
            entered = holding[target]
            for need in needs_for(book, web, target, way):
                entered = entered & ~holding[need]
            if _sum_at(prices, entered) > way_price(book, way):
                return False
    return True


def _is_fence(book, web, made, thing):
    """Whether a thing is a pair of some things, at least one, of a dict and a price."""
    return (
        is_tuple_of(2, 2, thing)
        and is_lot_of(book, web, made, thing[0])
        and thing[0] != ()
        and is_integer(thing[1])
        and thing[1] >= 1
    )


def _masks_holding(made, fences):
    """The dict from things to the masks of the fences in which they lie."""
    masks = {thing: 0 for thing in made}
    for at, (things, _) in enumerate(fences):
        for thing in things:
            masks[thing] = masks[thing] | (1 << at)
    return masks


def _sum_at(prices, mask):
    """The sum of the prices at the bits of a mask."""
    total = 0
    left = mask
    while left:
        lowest = left & -left
        total = total + prices[lowest.bit_length() - 1]
        left = left - lowest
    return total


def floor(book, web, fences, wishes):
    """The sum of the prices of the fences that hold a wish."""
    if not is_fences(book, web, fences):
        raise NoFences()
    check_wishes(book, web, wishes)
    wished = {wish: True for wish in wishes}
    return sum([price for things, price in fences if any([thing in wished for thing in things])])


def fences_of(book, web, choice):
    """For each thing the pair of the lot of all that need it by the choice and the price of its way."""
    check_choice(book, web, choice)
    links = links_of(book, web, choice)
    users = {thing: [] for thing in sorted(choice)}
    for user in sorted(choice):
        for thing in needed_by(links, (user,)):
            users[thing].append(user)
    return [(tuple(lot), way_price(book, choice[thing])) for thing, lot in users.items()]
