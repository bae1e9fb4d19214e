"""The best choice of a web, if there is one, and the ways that may stand for one another in it."""

from lookdown.alone import least_row
from lookdown.choices import check_choice
from lookdown.errors import NotBest
from lookdown.judging import Ledger, ledger_of, undercut_of
from lookdown.things import all_in, needs_for, usable_ways, way_price
from lookdown.webs import check_web


def best(book, web):
    """The best choice, of ways that could stand for one another the least, or None."""
    check_web(book, web)
    choice = _only_candidate(book, web)
    if undercut_of(book, web, choice) is not None:
        return None
    return choice


def _only_candidate(book, web):
    """The choice that is the best one if there is any.

    A best choice is cheapest for each thing as the only wish, so the way taken comes to the
    least sum with all that it needs. Another way to this sum is undercut unless all that it
    needs is needed by the way taken, too, whose own price is then not the greater one. So a
    way of the least price is taken, and others of this price are undercut or need the same.
    """
    ledger = Ledger()
    choice = {}
    for value in range(len(web.rows)):
        totals, ways = least_row(book, _offers(book, web, ledger, value))
        made = [(total, kind) for kind, total in enumerate(totals) if total is not None]
        # A move adds its price, so what it needs has the lesser total.
        for _, kind in sorted(made):
            thing = (value, kind)
            way = ways[kind]
            choice[thing] = way
            ledger.enter(thing, needs_for(book, web, thing, way), way_price(book, way))
    return choice


def _offers(book, web, ledger, value):
    """For each rule that is usable for a value the kind, the way and what it comes to with all that it needs."""
    op, parts = web.rows[value]
    found = []
    for k, (rule_op, sources, kind, price) in enumerate(book.rules):
        if rule_op == op:
            needed = list(zip(parts, sources))
            if all_in(ledger.masks, needed):
                found.append((kind, ("rule", k), price + ledger.total(ledger.reach(needed))))
    return found


def stand_ins(book, web, choice):
    """The dict from things to their other ways of the same price whose needs come to the same."""
    check_choice(book, web, choice)
    if undercut_of(book, web, choice) is not None:
        raise NotBest()
    ledger = ledger_of(book, web, choice, None)
    told = {}
    for thing in sorted(choice):
        others = [way for way in usable_ways(book, web, thing, choice) if way != choice[thing]]
        alike = [way for way in others if _come_to_the_same(book, web, ledger, thing, way, choice[thing])]
        if alike:
            told[thing] = alike
    return told


def _come_to_the_same(book, web, ledger, thing, way, other):
    """Whether two ways of a thing have one price and all that they need is the same."""
    needed = ledger.reach(needs_for(book, web, thing, way))
    return (
        way_price(book, way) == way_price(book, other)
        and needed == ledger.reach(needs_for(book, web, thing, other))
    )
