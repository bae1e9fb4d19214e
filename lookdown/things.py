"""Things of a web and a book, the ways that give them and what these need."""

from lookdown.books import Book, is_price
from lookdown.checks import is_between, is_tuple_of
from lookdown.errors import NoNumber, NoThing, NoWay
from lookdown.webs import check_web


def ways(book, web, thing):
    """The ascending list of the ways that give a thing."""
    check_web(book, web)
    _check_thing(book, web, thing)
    return ways_to(book, web, thing)


def needs(book, web, thing, way):
    """The lot of what a way needs to give a thing."""
    check_web(book, web)
    _check_thing(book, web, thing)
    if not is_way_to(book, web, thing, way):
        raise NoWay()
    return needs_for(book, web, thing, way)


def makeable(book, web):
    """The lot of all things that a row of makings can give."""
    check_web(book, web)
    made = {}
    # All that a value needs is of itself or of earlier values.
    for value in range(len(web.rows)):
        for kind in _kinds_made(book, web, value, made):
            made[(value, kind)] = True
    return tuple(sorted(made))


def _kinds_made(book, web, value, made):
    """The kinds in which a value is makeable, by what is makeable of its parts."""
    op, parts = web.rows[value]
    reached = {}
    for rule_op, sources, kind, _ in book.rules:
        if rule_op == op and all([need in made for need in zip(parts, sources)]):
            reached[kind] = True
    grown = True
    while grown:
        grown = False
        for source, kind, _ in book.moves:
            if source in reached and kind not in reached:
                reached[kind] = True
                grown = True
    return list(reached)


def is_thing(book, web, thing):
    """Whether a thing is a pair of a value of the web and a kind of the book."""
    return (
        is_tuple_of(2, 2, thing)
        and is_between(0, len(web.rows) - 1, thing[0])
        and is_between(0, book.kinds - 1, thing[1])
    )


def _check_thing(book, web, thing):
    if not is_thing(book, web, thing):
        raise NoThing()


def is_way(book, thing):
    """Whether a thing is a way of the book."""
    # The number is looked at by itself, for True would else pass as 1.
    return (
        is_tuple_of(2, 2, thing)
        and isinstance(thing[0], str)
        and (
            (thing[0] == "rule" and is_between(0, len(book.rules) - 1, thing[1]))
            or (thing[0] == "move" and is_between(0, len(book.moves) - 1, thing[1]))
        )
    )


def is_way_to(book, web, target, thing):
    """Whether a thing is a way that gives the target."""
    return is_way(book, thing) and thing in ways_to(book, web, target)


def ways_to(book, web, thing):
    """As ways, of what is known to be a thing."""
    value, wanted = thing
    op = web.rows[value][0]
    by_move = [("move", k) for k, move in enumerate(book.moves) if move[1] == wanted]
    by_rule = [("rule", k) for k, rule in enumerate(book.rules) if rule[0] == op and rule[2] == wanted]
    return by_move + by_rule


def needs_for(book, web, thing, way):
    """As needs, of what is known to be a thing and a way that gives it."""
    needed_once = {need: True for need in needs_by_parts(book, web, thing, way)}
    return tuple(sorted(needed_once))


def needs_by_parts(book, web, thing, way):
    """The list of what a way needs: a thing for each part of a rule, perhaps twice the same, or one for a move."""
    value = thing[0]
    word, k = way
    if word == "move":
        return [(value, book.moves[k][0])]
    return list(zip(web.rows[value][1], book.rules[k][1]))


def usable_ways(book, web, thing, made):
    """The ascending list of the ways to a thing all of whose needs are among what is made."""
    return [way for way in ways_to(book, web, thing) if all_in(made, needs_for(book, web, thing, way))]


def all_in(made, things):
    """Whether all things are among what is made."""
    return all([thing in made for thing in things])


def way_price(book, way):
    """The price of a way of the book."""
    word, k = way
    if word == "move":
        return book.moves[k][2]
    return book.rules[k][3]


def repriced(book, way, price):
    """The Book in which a way has another price: NoWay, then NoNumber for what is no price."""
    if not is_way(book, way):
        raise NoWay()
    if not is_price(price):
        raise NoNumber()
    word, k = way
    rules = list(book.rules)
    moves = list(book.moves)
    if word == "move":
        moves[k] = (*moves[k][:2], price)
    else:
        rules[k] = (*rules[k][:3], price)
    return Book(book.arities, book.kinds, tuple(rules), tuple(moves))
