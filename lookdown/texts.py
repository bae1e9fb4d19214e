"""Books and webs as texts, there and back."""

from lookdown.books import Book
from lookdown.errors import BadText, NoText
from lookdown.webs import Web


def book_text(book):
    """The text of a book: its ops, its kinds, its rules, its moves."""
    lines = [line_of(["ops", *book.arities]), line_of(["kinds", book.kinds])]
    for op, sources, kind, cost in book.rules:
        lines.append(line_of(["rule", op, kind, cost, *sources]))
    for source, kind, cost in book.moves:
        lines.append(line_of(["move", source, kind, cost]))
    return "\n".join(lines)


def web_text(web):
    """The text of a web: a line for each value."""
    return "\n".join([line_of([op, *parts]) for op, parts in web.rows])


def line_of(words):
    """The line of some words and numbers."""
    return " ".join([str(word) for word in words])


def read_book(text):
    """The Book that a text tells."""
    if not isinstance(text, str):
        raise BadText(0)
    arities, kinds, rules, moves = book_parts(text.split("\n"))
    return Book(arities, kinds, rules, moves)


def book_parts(lines):
    """What a Book is made of, as some lines tell it, the first of which is there."""
    arities = numbers_behind("ops", lines[0])
    if arities is None:
        raise BadText(1)
    # A lacking second line is told like a wrong one: by its number.
    counted = numbers_behind("kinds", lines[1]) if len(lines) > 1 else None
    if counted is None or len(counted) != 1:
        raise BadText(2)
    first_move = _first_move(lines)
    rules = [_rule(lines[at], at + 1) for at in range(2, first_move)]
    moves = [_move(lines[at], at + 1) for at in range(first_move, len(lines))]
    return (arities, counted[0], tuple(rules), tuple(moves))


def _first_move(lines):
    """Where the first line for a move stands, or would stand behind all lines."""
    for at in range(2, len(lines)):
        if lines[at].split(" ")[0] == "move":
            return at
    return len(lines)


def _rule(line, number):
    told = numbers_behind("rule", line)
    if told is None or len(told) < 3:
        raise BadText(number)
    op, kind, cost = told[:3]
    return (op, told[3:], kind, cost)


def _move(line, number):
    told = numbers_behind("move", line)
    if told is None or len(told) != 3:
        raise BadText(number)
    return told


def read_web(text):
    """The Web that a text tells."""
    if not isinstance(text, str):
        raise BadText(0)
    lines = text.split("\n") if text != "" else []
    values = []
    for at, line in enumerate(lines):
        told = numbers_of(line.split(" "))
        if told is None:
            raise BadText(at + 1)
        values.append((told[0], told[1:]))
    return Web(tuple(values))


def numbers_behind(word, line):
    """The numbers behind the first word of a line, None if it is not written so."""
    words = line.split(" ")
    if words[0] != word:
        return None
    return numbers_of(words[1:])


def numbers_of(words):
    """The numbers that the words tell, None if some word is no number."""
    if not all([_is_number(word) for word in words]):
        return None
    return tuple([int(word) for word in words])


def whole_lines(journal):
    """The list of the lines of a journal that a line feed closes."""
    if not isinstance(journal, str):
        raise NoText()
    return journal.split("\n")[:-1]


def _is_number(word):
    """Whether a word is a number of 1 to 9 digits without a needless 0."""
    # isdigit alone would let digits of other scripts pass.
    return word.isascii() and word.isdigit() and len(word) <= 9 and (word == "0" or word[0] != "0")
