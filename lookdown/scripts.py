"""Scripts: things made and let go of in turn, so that never too many are held."""

from lookdown.checks import is_between, is_tuple_of
from lookdown.errors import NoLimits, NoScript
from lookdown.plans import check_wishes, is_lot_of, is_making
from lookdown.things import all_in, needs_for, way_price
from lookdown.webs import check_web


def is_script(book, web, wishes, limits, thing):
    """Whether a thing is a script within the limits at whose end all wishes are held."""
    check_wishes(book, web, wishes)
    check_limits(book, limits)
    lots = _lots_held(book, web, limits, thing)
    if lots is None:
        return False
    return all_in(lots[-1] if lots else (), wishes)


def script_price(book, web, limits, script):
    """The sum of the prices of the ways of a script."""
    _checked_lots(book, web, limits, script)
    return sum([way_price(book, way) for (_, _, way), _ in script])


def held(book, web, limits, script):
    """The list of the lots of things that are held behind each step."""
    return _checked_lots(book, web, limits, script)


def check_limits(book, limits):
    """Raise NoLimits for what is no tuple of a number to 20 or None for each kind."""
    if not (is_tuple_of(book.kinds, book.kinds, limits) and all([_is_limit(limit) for limit in limits])):
        raise NoLimits()


def _is_limit(thing):
    return thing is None or is_between(0, 20, thing)


def _checked_lots(book, web, limits, script):
    check_web(book, web)
    check_limits(book, limits)
    lots = _lots_held(book, web, limits, script)
    if lots is None:
        raise NoScript()
    return lots


def _lots_held(book, web, limits, thing):
    """As held, of any thing; None for what is no script."""
    if not isinstance(thing, tuple):
        return None
    lots = []
    holding = {}
    for step in thing:
        if not _is_step(book, web, holding, step):
            return None
        making, dropped = step
        for each in dropped:
            del holding[each]
        holding[making[:2]] = True
        if not _is_within(limits, holding):
            return None
        lots.append(tuple(sorted(holding)))
    return lots


def _is_step(book, web, holding, thing):
    """Whether a thing is a step that can be done if just the things of the dict are held."""
    if not (is_tuple_of(2, 2, thing) and is_making(book, web, thing[0])):
        return False
    making, dropped = thing
    if not is_lot_of(book, web, holding, dropped):
        return False
    target = making[:2]
    kept = {each: True for each in holding if each not in dropped}
    return target not in kept and all_in(kept, needs_for(book, web, target, making[2]))


def _is_within(limits, holding):
    """Whether no limit is lower than how many things of its kind are held."""
    counts = [0] * len(limits)
    for _, kind in holding:
        counts[kind] += 1
    return all([limit is None or count <= limit for count, limit in zip(counts, limits)])
