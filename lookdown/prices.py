"""For which prices of one way a choice is best."""

from lookdown.choices import check_choice
from lookdown.errors import NoWay
from lookdown.judging import count_bits, ledger_of, usable_pairs
from lookdown.things import is_way, needs_for, way_price


def price_range(book, web, choice, way):
    """The least and the greatest price of a way for which the choice is best, None for no greatest, or for none."""
    check_choice(book, web, choice)
    if not is_way(book, way):
        raise NoWay()
    least = 1
    greatest = None
    for slope, room in _bounds(book, web, choice, way):
        if slope < 0:
            least = max(least, -room)
        elif slope > 0 and (greatest is None or room // slope < greatest):
            greatest = room // slope
        elif slope == 0 and room < 0:
            return None
    if greatest is not None and greatest < least:
        return None
    return (least, greatest)


def _bounds(book, web, choice, way):
    """For each usable way of each thing a pair (slope, room); slope is from -1 on.

    It is not undercut exactly if the price that is looked for, times slope, is at most room.
    """
    ledger = ledger_of(book, web, choice, way)
    # Nothing but the way itself costs 0 in this ledger.
    made_by_it = ledger.groups.get(0, 0)
    found = []
    for thing, other in usable_pairs(book, web, choice):
        mask = ledger.beyond(thing, needs_for(book, web, thing, other))
        many = count_bits(mask & made_by_it)
        if other == way:
            found.append((many - 1, -ledger.total(mask)))
        else:
            found.append((many, way_price(book, other) - ledger.total(mask)))
    return found
