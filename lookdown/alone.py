"""The own chooser: prices as if nothing were made once for many, and the ways that come to them."""

from lookdown.things import way_price
from lookdown.webs import check_web


def alone(book, web):
    """The dict from makeable things to their alone prices."""
    check_web(book, web)
    return _by_things([prices for prices, _ in _own_rows(book, web)])


def own(book, web):
    """The choice by own ways."""
    check_web(book, web)
    return _by_things([ways for _, ways in _own_rows(book, web)])


def _by_things(table):
    """The dict from things to what a row for each value holds for each kind, but for None."""
    told = {}
    for value, row in enumerate(table):
        for kind, held in enumerate(row):
            if held is not None:
                told[(value, kind)] = held
    return told


def _own_rows(book, web):
    """For each value what own_row tells of it."""
    found = []
    for op, parts in web.rows:
        found.append(own_row(book, op, [found[part][0] for part in parts]))
    return found


def own_row(book, op, part_prices):
    """The pair of the alone prices and the own ways of a value, by kinds, None for what is not makeable.

    part_prices holds for each part its alone prices by kinds, all of them perhaps less
    one number: then the prices are less these numbers, and the ways are the same.
    """
    offers = []
    for k, (rule_op, sources, kind, price) in enumerate(book.rules):
        if rule_op == op:
            # A thing that is needed twice stands here twice.
            paid = [prices[source] for prices, source in zip(part_prices, sources)]
            if None not in paid:
                offers.append((kind, ("rule", k), price + sum(paid)))
    return least_row(book, offers)


def least_row(book, offers):
    """The pair of the least totals and the ways to them, by kinds, None for what nothing gives.

    offers are triples (kind, way, total) for the usable rules; moves come on top of them.
    Of ways to one total that of the least price of its own is told, then the least way.
    """
    totals = _least_totals(book, offers)
    moved = []
    for k, (source, kind, price) in enumerate(book.moves):
        if source in totals:
            moved.append((kind, ("move", k), totals[source] + price))
    ways = []
    for wanted in range(book.kinds):
        reaching = []
        for kind, way, total in offers + moved:
            if kind == wanted and total == totals[kind]:
                reaching.append((way_price(book, way), way))
        ways.append(min(reaching)[1] if reaching else None)
    return (tuple([totals.get(kind) for kind in range(book.kinds)]), tuple(ways))


def _least_totals(book, offers):
    """The dict from kinds to the least totals, by offers and moves."""
    totals = {}
    for kind, _, total in offers:
        if kind not in totals or total < totals[kind]:
            totals[kind] = total
    changed = True
    while changed:
        changed = False
        for source, kind, price in book.moves:
            if source in totals and (kind not in totals or totals[source] + price < totals[kind]):
                totals[kind] = totals[source] + price
                changed = True
    return totals
