"""Plans: rows of makings, each one behind what it needs."""

from lookdown.checks import is_tuple_of
from lookdown.errors import NoPlan, NoWishes, TooMany
from lookdown.things import all_in, is_thing, is_way_to, makeable, needs_for, way_price
from lookdown.webs import check_web


def is_plan(book, web, wishes, thing):
    """Whether a thing is a plan for wishes."""
    check_wishes(book, web, wishes)
    return _is_plan_for(book, web, wishes, thing)


def price(book, web, plan):
    """The sum of the prices of the ways of a plan."""
    check_web(book, web)
    check_plan(book, web, (), plan)
    return sum([way_price(book, way) for _, _, way in plan])


def needless(book, web, wishes, plan):
    """The ascending list of the makings of a plan that the wishes do not call for."""
    check_wishes(book, web, wishes)
    check_plan(book, web, wishes, plan)
    called_for = {wish: True for wish in wishes}
    unused = []
    # What a making is needed by stands behind it, so the walk goes from the end.
    for value, kind, way in reversed(plan):
        thing = (value, kind)
        if thing in called_for:
            for need in needs_for(book, web, thing, way):
                called_for[need] = True
        else:
            unused.append((value, kind, way))
    return sorted(unused)


def orders(book, web, plan):
    """In how many orders the makings of a plan are a plan."""
    check_web(book, web)
    check_plan(book, web, (), plan)
    if len(plan) > 12:
        raise TooMany(12)
    ahead = masks_ahead(book, web, plan)
    # counts[done]: in how many orders just the makings of this mask can come first.
    counts = [1] + [0] * ((1 << len(plan)) - 1)
    for done in range(len(counts)):
        for at, mask in enumerate(ahead):
            if not (done >> at) & 1 and (mask & done) == mask:
                counts[done | (1 << at)] += counts[done]
    return counts[-1]


def masks_ahead(book, web, plan):
    """For each making the mask of the makings that give what it needs."""
    bits = {}
    masks = []
    for at, (value, kind, way) in enumerate(plan):
        thing = (value, kind)
        masks.append(sum([bits[need] for need in needs_for(book, web, thing, way)]))
        bits[thing] = 1 << at
    return masks


def is_wishes(book, web, thing):
    """Whether a thing is a lot of makeable things."""
    made = {each: True for each in makeable(book, web)}
    return is_lot_of(book, web, made, thing)


def is_lot_of(book, web, made, thing):
    """Whether a thing is a lot of things that are in the dict of what is made."""
    return (
        isinstance(thing, tuple)
        and all([is_thing(book, web, each) and each in made for each in thing])
        and all([thing[at] < thing[at + 1] for at in range(len(thing) - 1)])
    )


def check_wishes(book, web, wishes):
    """Raise NoWeb for what is no web of the book, then NoWishes for what are no wishes."""
    check_web(book, web)
    if not is_wishes(book, web, wishes):
        raise NoWishes()


def check_plan(book, web, wishes, plan):
    if not _is_plan_for(book, web, wishes, plan):
        raise NoPlan()


def _is_plan_for(book, web, wishes, thing):
    """As is_plan, of what are known to be wishes."""
    if not isinstance(thing, tuple):
        return False
    made = {}
    for making in thing:
        if not is_making(book, web, making):
            return False
        target = making[:2]
        if target in made or not all_in(made, needs_for(book, web, target, making[2])):
            return False
        made[target] = True
    return all_in(made, wishes)


def is_making(book, web, thing):
    return (
        is_tuple_of(3, 3, thing)
        and is_thing(book, web, thing[:2])
        and is_way_to(book, web, thing[:2], thing[2])
    )
