"""Programs that several tests use."""

import random

from lookdown.alone import own
from lookdown.books import Book
from lookdown.programs import Program, web_of
from lookdown.things import makeable
from tests.samples import usable

# Words lie in kind 0; kind 1 is where words are tested, and where sums can read their second part.
TIMES_BOOK = Book(
    (0, 0, 0, 0, 0, 2, 2),
    2,
    (
        (0, (), 0, 1),
        (1, (), 0, 1),
        (2, (), 0, 2),
        (3, (), 0, 2),
        (4, (), 0, 2),
        (5, (0, 0), 0, 3),
        (6, (0, 0), 0, 3),
        (5, (0, 1), 0, 1),
        (3, (), 1, 4),
    ),
    ((0, 1, 1), (1, 0, 1)),
)
TIMES_MEANINGS = (("num", 0), ("num", 1), ("place", 0), ("place", 1), ("place", 2), ("sum",), ("minus",))
TIMES_BLOCKS = (
    (2, ((2, ()), (3, ()), (0, ())), ("go", (1, (0, 1, 2)))),
    (3, ((2, ()), (3, ()), (4, ())), ("if", 1, (2, (0, 1, 2)), (3, (2,)))),
    (3, ((2, ()), (3, ()), (4, ()), (1, ()), (5, (0, 2)), (6, (1, 3))), ("go", (1, (0, 5, 4)))),
    (1, ((2, ()),), ("back", 0)),
)
# The product of two words, by adding the first one as often as the second one tells.
TIMES = Program(TIMES_BOOK, TIMES_MEANINGS, 0, 1, TIMES_BLOCKS)

# A program that gives back 7 at once.
SEVEN = Program(Book((0,), 1, ((0, (), 0, 1),), ()), (("num", 7),), 0, 0, ((0, ((0, ()),), ("back", 0)),))


def worked(meaning, first, second):
    """A program that works out one word of two that it is handed."""
    arity = 1 if meaning in ("not", "half") else 2
    book = Book((0, 0, arity), 1, ((0, (), 0, 1), (1, (), 0, 1), (2, (0,) * arity, 0, 1)), ())
    values = ((0, ()), (1, ()), (2, (first, second)[:arity]))
    return Program(book, (("place", 0), ("place", 1), (meaning,)), 0, 0, ((2, values, ("back", 2)),))


def own_choices(program):
    """The choices by own ways for all blocks."""
    return tuple(own(program.book, web_of(program, block)) for block in range(len(program.blocks)))


def random_choices(seed, program):
    """Choices of any usable ways by which nothing comes back to itself, the same for each seed."""
    dice = random.Random(seed)
    told = []
    for block in range(len(program.blocks)):
        web = web_of(program, block)
        choice = own(program.book, web)
        for thing in makeable(program.book, web):
            # Rules never come back; of moves the own ones alone are taken.
            rules = [way for way in usable(program.book, web, thing) if way[0] == "rule"]
            if rules and dice.randrange(2):
                choice[thing] = dice.choice(rules)
        told.append(choice)
    return tuple(told)


MEANINGS = {0: ["num", "place"], 1: ["not", "half"], 2: ["sum", "minus", "times", "less"]}


def random_program(seed):
    """A small program, the same for each seed; some blocks of some of them cannot be made."""
    dice = random.Random(seed)
    arities = (0, 0) + tuple(dice.choice((0, 1, 2, 2)) for _ in range(dice.randint(2, 5)))
    meanings = [("num", dice.choice((0, 1, 3, 65535)))]
    for arity in arities[1:]:
        word = dice.choice(MEANINGS[arity])
        meanings.append((word, dice.randrange(3)) if arity == 0 else (word,))
    kinds = dice.randint(1, 3)
    rules = {}
    for op, arity in enumerate(arities):
        for _ in range(dice.randint(1, 3)):
            sources = tuple(dice.choice((0, 0, dice.randrange(kinds))) for _ in range(arity))
            kind = dice.choice((0, 0, dice.randrange(kinds)))
            rules[(op, sources, kind)] = dice.randint(1, 9)
    moves = {}
    for kind in range(1, kinds):
        for source, other in [(0, kind), (kind, 0)]:
            if dice.randrange(6):
                moves[(source, other)] = dice.randint(1, 4)
    told = tuple((*key, cost) for key, cost in rules.items())
    book = Book(arities, kinds, told, tuple((*key, cost) for key, cost in moves.items()))
    places = [dice.randrange(4) for _ in range(dice.randint(1, 4))]
    blocks = tuple(random_block(dice, book, meanings, places, count) for count in places)
    return Program(book, tuple(meanings), dice.randrange(kinds), dice.randrange(kinds), blocks)


def random_block(dice, book, meanings, places, count):
    """A block that is handed so many words."""
    values = []
    for index in range(dice.randint(1, 6)):
        ops = []
        for op, meaning in enumerate(meanings):
            if (index > 0 or book.arities[op] == 0) and (meaning[0] != "place" or meaning[1] < count):
                ops.append(op)
        op = dice.choice(ops)
        values.append((op, tuple(dice.randrange(index) for _ in range(book.arities[op]))))
    return (count, tuple(values), random_end(dice, places, len(values)))


def random_end(dice, places, many):
    """An end behind so many values."""

    def target():
        block = dice.randrange(len(places))
        return (block, tuple(dice.randrange(many) for _ in range(places[block])))

    word = dice.choice(("back", "go", "if", "if"))
    if word == "back":
        return ("back", dice.randrange(many))
    if word == "go":
        return ("go", target())
    return ("if", dice.randrange(many), target(), target())


def random_inputs(seed, program):
    """Words for the first block, the same for each seed."""
    dice = random.Random(seed)
    return tuple(dice.choice((0, 1, 2, 40000, 65535)) for _ in range(program.blocks[0][0]))
