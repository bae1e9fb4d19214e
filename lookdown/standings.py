"""Standings: all that an own way can hang on of the parts that it needs."""

from lookdown.alone import own_row
from lookdown.errors import TooMany
from lookdown.webs import check_web


def standings(book):
    """The list of all standings of values of webs of the book, by rounds."""
    return standings_table(book)[0]


def labels(book, web):
    """The tuple of the numbers of the standings of all values."""
    check_web(book, web)
    table = standings_table(book)[1]
    numbers = []
    for op, parts in web.rows:
        numbers.append(table[(op, tuple([numbers[part] for part in parts]))])
    return tuple(numbers)


def standings_table(book):
    """The pair of the list of all standings and the dict from (op, numbers of parts) to numbers."""
    found = []
    numbers = {}
    table = {}
    fresh = [(op, ()) for op, arity in enumerate(book.arities) if arity == 0]
    while fresh:
        before = len(found)
        for op, parts in fresh:
            standing = standing_of(book, op, [found[part] for part in parts])
            if standing not in numbers:
                numbers[standing] = len(found)
                found.append(standing)
                if len(found) > 30:
                    raise TooMany(30)
            table[(op, parts)] = numbers[standing]
        fresh = _rows_with_new_parts(book, before, len(found))
    return (found, table)


def standing_of(book, op, parts):
    """The standing of a value with this op and parts of these standings."""
    prices, ways = own_row(book, op, [gaps for gaps, _ in parts])
    least = min([price for price in prices if price is not None], default=0)
    gaps = [None if price is None else price - least for price in prices]
    return (tuple(gaps), ways)


def _rows_with_new_parts(book, before, many):
    """All pairs of an op and numbers of parts below many, some of which is from before on."""
    rows = []
    for op, arity in enumerate(book.arities):
        for parts in _tuples(arity, many):
            if max(parts, default=-1) >= before:
                rows.append((op, parts))
    return rows


def _tuples(length, many):
    """The ascending list of the tuples of this length of numbers below many."""
    found = [()]
    for _ in range(length):
        found = [(*row, number) for row in found for number in range(many)]
    return found
