"""Webs: values that are made of earlier ones."""

from lookdown.books import Book
from lookdown.checks import is_between, is_tuple_of
from lookdown.errors import BadWeb, NoValue, NoWeb, TooMany


class Web:
    """Values, each one an op and the numbers of its parts."""

    def __init__(self, values):
        if not is_tuple_of(0, 200, values):
            raise BadWeb(-1)
        for index, value in enumerate(values):
            if not _is_value(index, value):
                raise BadWeb(index)
        self.rows = values

    def __eq__(self, other):
        return isinstance(other, Web) and self.rows == other.rows


def _is_value(index, thing):
    """Whether a thing can stand as the value of this number."""
    if not is_tuple_of(2, 2, thing):
        return False
    op, parts = thing
    return (
        is_between(0, 7, op)
        and is_tuple_of(0, 2, parts)
        and all([is_between(0, index - 1, part) for part in parts])
    )


def web_of_rows(rows):
    """The Web of rows that are known to be right, however many they are."""
    # A web that is returned may be greater than the constructor lets.
    web = Web(())
    web.rows = tuple(rows)
    return web


def fits(book, web):
    """Whether a web is one of the book."""
    return (
        isinstance(book, Book)
        and isinstance(web, Web)
        and all([_is_row_of(book, op, parts) for op, parts in web.rows])
    )


def _is_row_of(book, op, parts):
    return op < len(book.arities) and book.arities[op] == len(parts)


def is_value_of(book, index, thing):
    """Whether a thing can stand as the value of this number in a web of the book."""
    return _is_value(index, thing) and _is_row_of(book, thing[0], thing[1])


def check_web(book, web):
    """Raise NoWeb for what is no web of the book."""
    if not fits(book, web):
        raise NoWeb()


def _check_value(web, value):
    if not is_between(0, len(web.rows) - 1, value):
        raise NoValue()


def below(web, value):
    """The lot of the values that a value is made of, itself among them."""
    _check_value(web, value)
    found = {value: True}
    # Parts are earlier values, so one walk downwards meets each value behind all its users.
    for each in range(value, -1, -1):
        if each in found:
            for part in web.rows[each][1]:
                found[part] = True
    return tuple(sorted(found))


def part_web(web, value):
    """The Web of just what a value is made of, numbered anew in the same order."""
    values = below(web, value)
    places = {each: place for place, each in enumerate(values)}
    rows = []
    for each in values:
        op, parts = web.rows[each]
        rows.append((op, tuple([places[part] for part in parts])))
    return web_of_rows(rows)


def unfolded(web, value):
    """The Web in which each part is made anew for each use."""
    values = below(web, value)
    if _unfolded_size(web, values) > 2000:
        raise TooMany(2000)
    trees = {}
    for each in values:
        op, parts = web.rows[each]
        rows = []
        tops = []
        for part in parts:
            rows = rows + moved(trees[part], len(rows))
            tops.append(len(rows) - 1)
        trees[each] = rows + [(op, tuple(tops))]
    return web_of_rows(trees[value])


def _unfolded_size(web, values):
    """How many values the last one of these has when it is unfolded."""
    # Counted ahead of building, for the count may double with each value.
    sizes = {}
    for each in values:
        sizes[each] = 1 + sum([sizes[part] for part in web.rows[each][1]])
    return sizes[values[-1]]


def moved(rows, by):
    """Rows whose values are numbered from by on."""
    return [(op, tuple([part + by for part in parts])) for op, parts in rows]


def folded(web):
    """The pair of the Web in which alike values are one, and their places in it."""
    numbers = {}
    places = []
    for op, parts in web.rows:
        row = (op, tuple([places[part] for part in parts]))
        if row not in numbers:
            numbers[row] = len(numbers)
        places.append(numbers[row])
    return (web_of_rows(list(numbers)), tuple(places))


def beside(web, other):
    """The Web of both, the other one's values behind."""
    return web_of_rows(list(web.rows) + moved(other.rows, len(web.rows)))
