"""Books, webs and strange objects that several tests use."""

import itertools
import random

from lookdown.books import Book
from lookdown.errors import NoWeb
from lookdown.things import makeable, needs, ways
from lookdown.webs import Web

CHAIN = Book(
    (0, 1, 1),
    3,
    (
        (0, (), 0, 1),
        (0, (), 1, 1),
        (1, (0,), 0, 1),
        (1, (1,), 1, 1),
        (2, (0,), 2, 2),
        (2, (1,), 2, 3),
    ),
    (),
)
STEPS = Web(((0, ()), (1, (0,)), (2, (1,))))

# A leaf, a pair of leaves; moves to and fro between the kinds 0 and 1, a ring of 2 and 3.
MOVING = Book(
    (0, 2, 1),
    4,
    ((0, (), 0, 5), (0, (), 1, 2), (1, (0, 0), 0, 7), (1, (0, 1), 1, 4), (2, (2,), 0, 1)),
    ((0, 1, 1), (1, 0, 1), (2, 3, 1), (3, 2, 1)),
)
SHARED = Web(((0, ()), (0, ()), (1, (0, 0)), (1, (0, 2)), (2, (3,))))

# The choice by own ways.
STEPS_OWN = {
    (0, 0): ("rule", 0),
    (0, 1): ("rule", 1),
    (1, 0): ("rule", 2),
    (1, 1): ("rule", 3),
    (2, 2): ("rule", 4),
}

# The same value can be used from one kind for all, which is dear alone and cheap together.
TWICE = Book((0, 2), 2, ((0, (), 0, 10), (0, (), 1, 4), (1, (0, 0), 0, 5), (1, (0, 1), 0, 8)), ())
PAIR = Web(((0, ()), (1, (0, 0))))

# What is made of three rules of one price that come to the same, if kind 1 is moved to.
ALIKE = Book(
    (0, 2),
    2,
    ((0, (), 0, 1), (1, (1, 1), 0, 3), (1, (1, 0), 0, 3), (1, (0, 1), 0, 3), (1, (0, 0), 1, 9)),
    ((0, 1, 1),),
)

# Each value of op 1 uses the one ahead twice.
DOUBLING = Book((0, 2), 1, ((0, (), 0, 1), (1, (0, 0), 0, 1)), ())
DOUBLES = Web(((0, ()),) + tuple((1, (k, k)) for k in range(199)))

EMPTY_BOOK = Book((0,), 1, (), ())
EMPTY_WEB = Web(())


def nested(make, depth):
    """An object with make applied so many times around it."""
    inner = make(())
    for _ in range(depth - 1):
        inner = make(inner)
    return inner


def strange_objects():
    """Objects of built-in kinds and of the package, hardly any of which is right anywhere."""
    return [
        None,
        True,
        False,
        Ellipsis,
        NotImplemented,
        -1,
        10**40 - 1,
        -(10**40) + 1,
        "",
        "rule",
        "a b\nc",
        b"",
        b"rule",
        bytearray(b"ab"),
        memoryview(b"ab"),
        range(2),
        slice(1),
        [],
        [0],
        [0, 0],
        [("rule", 0)],
        {},
        {0: 1},
        {(0, 0): ("rule", 0)},
        iter([]),
        (each for each in [1]),
        zip([1], [2]),
        object(),
        int,
        tuple,
        len,
        "x".join,
        nested,
        ValueError("x"),
        NoWeb(),
        NoWeb,
        Book,
        Web,
        CHAIN,
        nested(lambda inner: [inner], 40),
        nested(lambda inner: (inner,), 40),
        nested(lambda inner: {0: inner}, 40),
        nested(lambda inner: (inner, inner) if inner == () else (inner, 0), 40),
        tuple(range(20000)),
        [[]] * 20000,
    ]


def strange_tuples():
    """Tuples of a few items, one of which is strange or of the wrong count."""
    odd = [(), (0,), (0, 0, 0, 0, 0), (None, None), (True, False), ("0", "0"), ([], {}), ([], {}, ("rule", []))]
    deep = nested(lambda inner: [inner], 39)
    return odd + [(deep, deep), (deep, deep, deep), (0, deep), (deep, 0), (0, 0, deep), (-1, 0), (0, -1)]


def random_book(seed):
    """A small book, the same for each seed."""
    dice = random.Random(seed)
    arities = (0,) + tuple(dice.randint(0, 2) for _ in range(dice.randint(1, 3)))
    kinds = dice.randint(1, 3)
    rules = {}
    for _ in range(dice.randint(2, 9)):
        op = dice.randrange(len(arities))
        sources = tuple(dice.randrange(kinds) for _ in range(arities[op]))
        rules[(op, sources, dice.randrange(kinds))] = dice.randint(1, 9)
    moves = {}
    for _ in range(dice.randint(0, 3)):
        source, kind = dice.randrange(kinds), dice.randrange(kinds)
        if source != kind:
            moves[(source, kind)] = dice.randint(1, 4)
    return Book(
        arities,
        kinds,
        tuple((*key, cost) for key, cost in rules.items()),
        tuple((*key, cost) for key, cost in moves.items()),
    )


def random_web(seed, book, many):
    """A web of the book with so many values, the same for each seed."""
    dice = random.Random(seed)
    rows = []
    for index in range(many):
        ops = [op for op, arity in enumerate(book.arities) if arity == 0 or index > 0]
        op = dice.choice(ops)
        rows.append((op, tuple(dice.randrange(index) for _ in range(book.arities[op]))))
    return Web(tuple(rows))


def usable(book, web, thing):
    """The ways that give a thing of makeable ones."""
    made = set(makeable(book, web))
    return [way for way in ways(book, web, thing) if made.issuperset(needs(book, web, thing, way))]


def all_needed(book, web, choice, thing, behind=()):
    """The set of all that is needed by a thing; None if one comes back to something on the way."""
    if thing in behind:
        return None
    found = {thing}
    for need in needs(book, web, thing, choice[thing]):
        further = all_needed(book, web, choice, need, (*behind, thing))
        if further is None:
            return None
        found |= further
    return found


def all_choices(book, web, most):
    """All choices for a web, or none at all if more than so many dicts of usable ways are to be tried."""
    things = makeable(book, web)
    options = [usable(book, web, thing) for thing in things]
    many = 1
    for option in options:
        many *= len(option)
    if many > most:
        return []
    tried = [dict(zip(things, told)) for told in itertools.product(*options)]
    return [choice for choice in tried if all(all_needed(book, web, choice, thing) is not None for thing in things)]


def all_lots(things):
    """All lots of some of the things, the smaller ones first."""
    return [lot for many in range(len(things) + 1) for lot in itertools.combinations(sorted(things), many)]
