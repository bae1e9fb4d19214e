"""Plans within few cells: the cheapest script within limits, and how low limits can be."""

from heapq import heappop, heappush

from lookdown.checks import is_between
from lookdown.errors import NoKind, TooMany
from lookdown.judging import count_bits
from lookdown.plans import check_plan, check_wishes, masks_ahead
from lookdown.scripts import check_limits
from lookdown.searching import cheapest, mask_of, next_makings, options_of, things_below


def tight(book, web, wishes, limits):
    """The pair of the least price of a script for wishes within limits and such a script, or None."""
    check_wishes(book, web, wishes)
    check_limits(book, limits)
    things = things_below(book, web, wishes, 10)
    return _cheapest_script(book, web, things, wishes, limits)


def _cheapest_script(book, web, things, wishes, limits):
    """As tight; the things are all makeable ones of some values and of all that these are made of."""
    prices, lasts = _holdings(book, web, things, limits)
    wanted = mask_of(things, wishes)
    enough = [(cost, mask) for mask, cost in prices.items() if (mask & wanted) == wanted]
    if not enough:
        return None
    cost, mask = min(enough)
    return (cost, _script_to(things, lasts, mask))


def _holdings(book, web, things, limits):
    """The least price for each mask of things that can be held, and the last turn to it.

    A turn is a triple: the mask ahead of it, the number of a thing, and the way that makes
    it, None if it is let go of. That costs nothing, and is done ahead of the making in
    whose step it stands, so things can be let go of one by one.
    """
    options = [options_of(book, web, things, thing) for thing in things]
    caps = _caps(things, limits)
    prices = {0: 0}
    lasts = {}
    queue = [(0, 0)]
    while queue:
        cost, mask = heappop(queue)
        # A mask stands in the queue once more for each price that was too high.
        if cost == prices[mask]:
            for at, more, way in _turns(options, caps, mask):
                turned = mask ^ (1 << at)
                if turned not in prices or cost + more < prices[turned]:
                    prices[turned] = cost + more
                    lasts[turned] = (mask, at, way)
                    heappush(queue, (cost + more, turned))
    return (prices, lasts)


def _caps(things, limits):
    """For each limit that is one the pair of it and the mask of the things of its kind."""
    caps = []
    for kind, limit in enumerate(limits):
        if limit is not None:
            caps.append((limit, mask_of(things, [thing for thing in things if thing[1] == kind])))
    return caps


def _turns(options, caps, mask):
    """For each thing held, and each one that can be made and held then, its number, the price and the way."""
    found = [(at, 0, None) for at in range(len(options)) if (mask >> at) & 1]
    for at, cost, way in next_makings(options, mask):
        made = mask | (1 << at)
        if all([count_bits(made & of_kind) <= limit for limit, of_kind in caps]):
            found.append((at, cost, way))
    return found


def _script_to(things, lasts, mask):
    """The script that leads to a mask, by the last turns; nothing is let go of behind its last making."""
    turns = []
    while mask in lasts:
        mask, at, way = lasts[mask]
        turns.append((at, way))
    steps = []
    dropped = []
    for at, way in reversed(turns):
        if way is None:
            dropped.append(things[at])
        else:
            steps.append(((*things[at], way), tuple(sorted(dropped))))
            dropped = []
    return tuple(steps)


def least_limit(book, web, wishes, kind):
    """The least limit of a kind with which there is a script for the wishes."""
    things = _checked_things(book, web, wishes, kind)
    limit = 0
    while _cheapest_script(book, web, things, wishes, _limits(book, kind, limit)) is None:
        limit += 1
    return limit


def free_limit(book, web, wishes, kind):
    """The least limit of a kind with which the cheapest script costs no more than the cheapest plan."""
    things = _checked_things(book, web, wishes, kind)
    least = cheapest(book, web, wishes)[0]
    limit = 0
    while not _costs(_cheapest_script(book, web, things, wishes, _limits(book, kind, limit)), least):
        limit += 1
    return limit


def _costs(told, price):
    """Whether there is a script at all, and for this price."""
    return told is not None and told[0] == price


def _checked_things(book, web, wishes, kind):
    """The makeable things below the wishes; each error that least_limit and free_limit tell is raised here."""
    check_wishes(book, web, wishes)
    if not is_between(0, book.kinds - 1, kind):
        raise NoKind()
    return things_below(book, web, wishes, 10)


def _limits(book, kind, limit):
    """Limits of which one alone, of this kind, is one."""
    return tuple([limit if each == kind else None for each in range(book.kinds)])


def fewest_held(book, web, wishes, plan):
    """The least, over all orders of a plan, of the most things held behind a making."""
    check_wishes(book, web, wishes)
    check_plan(book, web, wishes, plan)
    if len(plan) > 12:
        raise TooMany(12)
    ahead = masks_ahead(book, web, plan)
    wished = mask_of([making[:2] for making in plan], wishes)
    # least[done]: the least of the most that are held while just the makings of this mask are done.
    least = [0] + [None] * ((1 << len(plan)) - 1)
    for done in range(len(least)):
        if least[done] is not None:
            most = max(least[done], _count_kept(ahead, wished, done) + 1)
            for at, mask in enumerate(ahead):
                grown = done | (1 << at)
                if grown != done and (mask & done) == mask and (least[grown] is None or most < least[grown]):
                    least[grown] = most
    return least[-1]


def _count_kept(ahead, wished, done):
    """How many things of the makings of a mask are wished, or needed by a making that is not done."""
    kept = wished
    for at, mask in enumerate(ahead):
        if not (done >> at) & 1:
            kept = kept | mask
    return count_bits(kept & done)
