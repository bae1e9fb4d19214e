"""Choices judged: whether some way would have been cheaper for some wishes."""

from lookdown.choices import check_choice, is_choice, plan_of
from lookdown.things import needs_for, usable_ways, way_price


class Ledger:
    """What each thing needs by a choice, as a mask with a bit for each thing, and what masks come to."""

    def __init__(self):
        # From things to the masks of all that they need, themselves among it.
        self.masks = {}
        # From prices to the masks of the things whose ways have this price.
        self.groups = {}

    def enter(self, thing, things, price):
        """One thing more, made at this price of things that were entered ahead of it."""
        bit = 1 << len(self.masks)
        self.masks[thing] = bit | self.reach(things)
        self.groups[price] = self.groups.get(price, 0) | bit

    def reach(self, things):
        """The mask of all that is needed by some things."""
        mask = 0
        for thing in things:
            mask = mask | self.masks[thing]
        return mask

    def beyond(self, thing, things):
        """The mask of what a thing needs and some things do not."""
        return self.masks[thing] & ~self.reach(things)

    def total(self, mask):
        """The sum of the prices of the things of a mask."""
        return sum([price * count_bits(mask & group) for price, group in self.groups.items()])


def count_bits(mask):
    """How many bits of a mask are set."""
    digits = f"{mask:b}"
    return digits.count("1")


def ledger_of(book, web, choice, unpaid):
    """The Ledger of a choice, in which one way, if it is not None, has the price 0."""
    ledger = Ledger()
    for value, kind, way in plan_of(book, web, choice, sorted(choice)):
        thing = (value, kind)
        price = 0 if way == unpaid else way_price(book, way)
        ledger.enter(thing, needs_for(book, web, thing, way), price)
    return ledger


def usable_pairs(book, web, choice):
    """The ascending list of all pairs of a thing and a usable way of it."""
    found = []
    for thing in sorted(choice):
        for way in usable_ways(book, web, thing, choice):
            found.append((thing, way))
    return found


def extras(book, web, choice):
    """The dict from all pairs of a thing and a usable way to what the thing costs beyond the way's needs."""
    check_choice(book, web, choice)
    return _extras_of(book, web, choice)


def _extras_of(book, web, choice):
    """As extras, of what is known to be a choice; in ascending order."""
    ledger = ledger_of(book, web, choice, None)
    told = {}
    for thing, way in usable_pairs(book, web, choice):
        told[(thing, way)] = ledger.total(ledger.beyond(thing, needs_for(book, web, thing, way)))
    return told


def undercut(book, web, choice):
    """The least pair whose extra is more than the way's own price, or None."""
    check_choice(book, web, choice)
    return undercut_of(book, web, choice)


def undercut_of(book, web, choice):
    """As undercut, of what is known to be a choice."""
    for (thing, way), extra in _extras_of(book, web, choice).items():
        if extra > way_price(book, way):
            return (thing, way)
    return None


def is_best(book, web, thing):
    """Whether a thing is a choice that no plan beats, whatever the wishes."""
    return is_choice(book, web, thing) and undercut_of(book, web, thing) is None


def beaten(book, web, choice):
    """Wishes, the plan by the choice for them and a cheaper one, or None for a best choice."""
    check_choice(book, web, choice)
    pair = undercut_of(book, web, choice)
    if pair is None:
        return None
    thing, way = pair
    things = needs_for(book, web, thing, way)
    # The thing is none of what the way needs, for then its extra would be 0.
    wishes = tuple(sorted([thing, *things]))
    other = (*plan_of(book, web, choice, things), (*thing, way))
    return (wishes, plan_of(book, web, choice, wishes), other)
