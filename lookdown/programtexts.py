"""Programs as texts, there and back."""

from lookdown.books import Book
from lookdown.errors import BadText
from lookdown.programs import Program
from lookdown.texts import book_parts, book_text, line_of, numbers_behind, numbers_of

BOOK_WORDS = ("ops", "kinds", "rule", "move")
# The words of meanings behind which no number stands.
BARE_WORDS = ("not", "half", "sum", "minus", "times", "less")


def program_text(program):
    """The text of a program: its book, its meanings, its kinds, its blocks."""
    lines = [book_text(program.book)]
    for op, meaning in enumerate(program.meanings):
        lines.append(line_of(["mean", op, *meaning]))
    lines.append(line_of(["hand", program.hand, "test", program.test]))
    for places, values, end in program.blocks:
        lines.append(line_of(["block", places]))
        lines.extend([value_line(value) for value in values])
        lines.append(end_line(end))
    return "\n".join(lines)


def value_line(value):
    """The line of a value of a block."""
    op, parts = value
    return line_of(["value", op, *parts])


def end_line(end):
    """The line of the end of a block."""
    if end[0] == "back":
        return line_of(end)
    if end[0] == "go":
        return line_of(["go", *_target_words(end[1])])
    return line_of(["if", end[1], *_target_words(end[2]), "else", *_target_words(end[3])])


def _target_words(target):
    block, values = target
    return [block, *values]


def read_program(text):
    """The Program that a text tells."""
    if not isinstance(text, str):
        raise BadText(0)
    lines = text.split("\n")
    at = _book_end(lines)
    arities, kinds, rules, moves = book_parts(lines[:at])
    meanings = []
    for op in range(len(arities)):
        meanings.append(_meaning(op, lines, at))
        at += 1
    hand, test = _hand_and_test(lines, at)
    blocks = _blocks(lines, at + 1)
    book = Book(arities, kinds, rules, moves)
    return Program(book, tuple(meanings), hand, test, tuple(blocks))


def _book_end(lines):
    """How many lines tell of the book, right or not: at least the first one."""
    for at in range(1, len(lines)):
        if lines[at].split(" ")[0] not in BOOK_WORDS:
            return at
    return len(lines)


def _line_at(lines, at):
    # A lacking line is told like a wrong one: by its number.
    if at == len(lines):
        raise BadText(at + 1)
    return lines[at]


def _meaning(op, lines, at):
    """The meaning of an op, which the line at this place tells."""
    words = _line_at(lines, at).split(" ")
    if len(words) < 3 or words[:2] != ["mean", str(op)]:
        raise BadText(at + 1)
    told = numbers_of(words[3:])
    if words[2] in BARE_WORDS and told == ():
        return (words[2],)
    if words[2] in ("num", "place") and told is not None and len(told) == 1:
        return (words[2], *told)
    raise BadText(at + 1)


def _hand_and_test(lines, at):
    """The two kinds that the line at this place tells."""
    words = _line_at(lines, at).split(" ")
    told = numbers_of(words[1::2])
    if len(words) != 4 or words[::2] != ["hand", "test"] or told is None:
        raise BadText(at + 1)
    return told


def _blocks(lines, start):
    """The list of the blocks that the lines from this place on tell."""
    blocks = []
    at = start
    while at < len(lines):
        told = numbers_behind("block", lines[at])
        if told is None or len(told) != 1:
            raise BadText(at + 1)
        at += 1
        values = []
        while value_told(_line_at(lines, at)) is not None:
            values.append(value_told(lines[at]))
            at += 1
        end = end_told(lines[at])
        if end is None:
            raise BadText(at + 1)
        at += 1
        blocks.append((told[0], tuple(values), end))
    return blocks


def value_told(line):
    """The value that a line tells, None if it is not written so."""
    told = numbers_behind("value", line)
    if told is None or len(told) < 1:
        return None
    return (told[0], told[1:])


def end_told(line):
    """The end that a line tells, None if it is not written so."""
    words = line.split(" ")
    if words[0] == "if":
        return _branch_told(words[1:])
    told = numbers_of(words[1:])
    if words[0] == "back" and told is not None and len(told) == 1:
        return ("back", told[0])
    if words[0] == "go" and told is not None and len(told) >= 1:
        return ("go", (told[0], told[1:]))
    return None


def _branch_told(words):
    """The end that the words behind `if` tell, None if they are not written so."""
    if "else" not in words:
        return None
    at = words.index("else")
    told = numbers_of(words[:at])
    other = numbers_of(words[at + 1:])
    if told is None or other is None or len(told) < 2 or len(other) < 1:
        return None
    return ("if", told[0], (told[1], told[2:]), (other[0], other[1:]))
