"""What each wish pays of what is made for several, and who would be better off alone."""

from math import gcd, lcm

from lookdown.choices import check_choice, links_of, needed_by
from lookdown.errors import TooMany
from lookdown.plans import check_wishes
from lookdown.searching import least_prices, mask_of, things_below
from lookdown.things import way_price


def shares(book, web, choice, wishes):
    """The dict from wishes to what they pay, if the wishes that need a thing part its price evenly."""
    check_choice(book, web, choice)
    check_wishes(book, web, wishes)
    bottom, tops = _common_shares(book, web, choice, wishes)
    return {wish: _lowest(tops[wish], bottom) for wish in wishes}


def _lowest(top, bottom):
    """A fraction in lowest terms."""
    divisor = gcd(top, bottom)
    return (top // divisor, bottom // divisor)


def _common_shares(book, web, choice, wishes):
    """The shares with one bottom for all: the pair of it and the dict from wishes to tops."""
    links = links_of(book, web, choice)
    lots = {wish: needed_by(links, (wish,)) for wish in wishes}
    users = {}
    for wish in wishes:
        for thing in lots[wish]:
            users[thing] = users.get(thing, 0) + 1
    bottom = 1
    for many in users.values():
        bottom = lcm(bottom, many)
    tops = {}
    for wish in wishes:
        tops[wish] = sum([way_price(book, choice[thing]) * (bottom // users[thing]) for thing in lots[wish]])
    return (bottom, tops)


def leavers(book, web, choice, wishes):
    """The least lot of wishes that some plan makes for less than their shares come to, or None."""
    check_choice(book, web, choice)
    check_wishes(book, web, wishes)
    if len(wishes) > 10:
        raise TooMany(10)
    things = things_below(book, web, wishes, 14)
    least = _least_with(least_prices(book, web, things)[0])
    bottom, tops = _common_shares(book, web, choice, wishes)
    for lot in _lots_by_size(wishes):
        if least[mask_of(things, lot)] * bottom < sum([tops[wish] for wish in lot]):
            return lot
    return None


def _lots_by_size(wishes):
    """All lots of some of the wishes, the smaller ones first, those of one size ascending."""
    lots = [()]
    for wish in wishes:
        lots = lots + [(*lot, wish) for lot in lots]
    return [lot for _, lot in sorted([(len(lot), lot) for lot in lots])]


def _least_with(prices):
    """For each mask the least of the prices of the masks that hold it; None stands for no price."""
    least = list(prices)
    bit = 1
    while bit < len(least):
        for mask in range(len(least)):
            if (mask & bit) == 0 and least[mask | bit] is not None:
                if least[mask] is None or least[mask | bit] < least[mask]:
                    least[mask] = least[mask | bit]
        bit = bit * 2
    return least
