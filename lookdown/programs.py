"""Programs: blocks of values over words, and their run by words alone."""

from lookdown.books import Book
from lookdown.checks import is_between, is_tuple_of
from lookdown.errors import BadProgram, NoBlock, NoInputs, NoNumber
from lookdown.webs import is_value_of, web_of_rows

# How many words there are, and how many parts what is worked out of words has.
WORDS = 65536
WORKED = {"not": 1, "half": 1, "sum": 2, "minus": 2, "times": 2, "less": 2}


class Program:
    """A book, what its ops mean, the kinds of what is handed on and of what is tested, and the blocks."""

    def __init__(self, book, meanings, hand, test, blocks):
        _check_frame(book, meanings, hand, test, blocks)
        for number, block in enumerate(blocks):
            if not _is_block(book, meanings, blocks, block):
                raise BadProgram(("block", number))
        self.book = book
        self.meanings = meanings
        self.hand = hand
        self.test = test
        self.blocks = blocks

    def __eq__(self, other):
        return (
            isinstance(other, Program)
            and self.book == other.book
            and self.meanings == other.meanings
            and self.hand == other.hand
            and self.test == other.test
            and self.blocks == other.blocks
        )


def _check_frame(book, meanings, hand, test, blocks):
    if not isinstance(book, Book):
        raise BadProgram(("book",))
    if not _are_meanings(book, meanings):
        raise BadProgram(("meanings",))
    if not is_between(0, book.kinds - 1, hand):
        raise BadProgram(("hand",))
    if not is_between(0, book.kinds - 1, test):
        raise BadProgram(("test",))
    if not is_tuple_of(1, 12, blocks):
        raise BadProgram(("blocks",))


def _are_meanings(book, thing):
    many = len(book.arities)
    return is_tuple_of(many, many, thing) and all(
        [_is_meaning(arity, meaning) for arity, meaning in zip(book.arities, thing)]
    )


def _is_meaning(arity, thing):
    """Whether a thing can be what an op of so many parts means."""
    if not (is_tuple_of(1, 2, thing) and isinstance(thing[0], str)):
        return False
    if thing[0] == "num":
        return arity == 0 and len(thing) == 2 and is_word(thing[1])
    if thing[0] == "place":
        return arity == 0 and len(thing) == 2 and is_between(0, 3, thing[1])
    return len(thing) == 1 and WORKED.get(thing[0]) == arity


def is_word(thing):
    """Whether a thing is a number that words can be."""
    return is_between(0, WORDS - 1, thing)


def _is_block(book, meanings, blocks, thing):
    """Whether a thing can be one of the blocks."""
    if not _has_places(thing):
        return False
    places, values, end = thing
    return (
        is_tuple_of(0, 200, values)
        and all([is_value_of(book, index, value) for index, value in enumerate(values)])
        and all([_is_handed(meanings, places, op) for op, _ in values])
        and _is_end(blocks, len(values), end)
    )


def _has_places(thing):
    """Whether a thing is a triple that begins as a block: other blocks' targets ask for no more."""
    return is_tuple_of(3, 3, thing) and is_between(0, 4, thing[0])


def _is_handed(meanings, places, op):
    """Whether so many words are enough for what an op means."""
    word = meanings[op][0]
    return word != "place" or meanings[op][1] < places


def _is_end(blocks, many, thing):
    """Whether a thing can be the end of a block of so many values."""
    if not (is_tuple_of(2, 4, thing) and isinstance(thing[0], str)):
        return False
    if thing[0] == "back":
        return len(thing) == 2 and is_between(0, many - 1, thing[1])
    if thing[0] == "go":
        return len(thing) == 2 and _is_target(blocks, many, thing[1])
    return (
        thing[0] == "if"
        and len(thing) == 4
        and is_between(0, many - 1, thing[1])
        and _is_target(blocks, many, thing[2])
        and _is_target(blocks, many, thing[3])
    )


def _is_target(blocks, many, thing):
    """Whether a thing is a block that can be gone to and as many values, of so many, as it is handed."""
    if not (is_tuple_of(2, 2, thing) and is_between(0, len(blocks) - 1, thing[0])):
        return False
    block = blocks[thing[0]]
    return (
        _has_places(block)
        and is_tuple_of(block[0], block[0], thing[1])
        and all([is_between(0, many - 1, value) for value in thing[1]])
    )


def plain(program, inputs, most):
    """The word that the run gives back, None if it is not over behind so many blocks, and how many were done."""
    check_run(program, inputs, most)
    block = 0
    handed = inputs
    for done in range(most):
        words = _all_words(program, block, handed)
        block, handed = outcome(program.blocks[block][2], words, words)
        if block is None:
            return (handed, done + 1)
    return (None, most)


def check_inputs(program, inputs):
    """Raise NoInputs for what are no words for the first block."""
    places = program.blocks[0][0]
    if not (is_tuple_of(places, places, inputs) and all([is_word(word) for word in inputs])):
        raise NoInputs()


def check_run(program, inputs, most):
    """Raise NoInputs, then NoNumber for what is no count of blocks to do."""
    check_inputs(program, inputs)
    if not is_between(0, 10000, most):
        raise NoNumber()


def _all_words(program, block, handed):
    """The words of all values of a block that is handed some words."""
    words = []
    for op, parts in program.blocks[block][1]:
        words.append(meant(program.meanings[op], handed, [words[part] for part in parts]))
    return words


def meant(meaning, handed, words):
    """The word that a value of this meaning is, of the words of its parts, in a block that is handed some words."""
    word = meaning[0]
    if word == "num":
        return meaning[1]
    if word == "place":
        return handed[meaning[1]]
    if word == "not":
        return WORDS - 1 - words[0]
    if word == "half":
        return words[0] // 2
    if word == "sum":
        return (words[0] + words[1]) % WORDS
    if word == "minus":
        return (words[0] - words[1]) % WORDS
    if word == "times":
        return (words[0] * words[1]) % WORDS
    return 1 if words[0] < words[1] else 0


def outcome(end, handed, tested):
    """What an end leads to: the block gone to and the words for it, or None and the word given back.

    handed and tested hold the words of values: those handed on or given back, and those tested.
    """
    if end[0] == "back":
        return (None, handed[end[1]])
    target = end[1]
    if end[0] == "if":
        target = end[2] if tested[end[1]] != 0 else end[3]
    block, values = target
    return (block, tuple([handed[value] for value in values]))


def web_of(program, block):
    """The Web of the values of a block."""
    _check_block(program, block)
    return web_of_rows(program.blocks[block][1])


def wishes_of(program, block):
    """The lot of the things that the end of a block wants."""
    _check_block(program, block)
    end = program.blocks[block][2]
    wanted = {}
    if end[0] == "if":
        wanted[(end[1], program.test)] = True
    for value in _values_handed(end):
        wanted[(value, program.hand)] = True
    return tuple(sorted(wanted))


def _values_handed(end):
    """The list of the values that an end hands on, wherever it leads, or gives back."""
    if end[0] == "back":
        return [end[1]]
    targets = end[2:] if end[0] == "if" else end[1:]
    return [value for _, values in targets for value in values]


def is_block_number(program, thing):
    """Whether a thing is the number of a block."""
    return is_between(0, len(program.blocks) - 1, thing)


def _check_block(program, block):
    if not is_block_number(program, block):
        raise NoBlock()
