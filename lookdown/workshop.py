"""A workshop: runs of a program led row by row, while the program is changed."""

from lookdown.alone import own
from lookdown.checks import is_between
from lookdown.codes import cells_of, coded, outcome_on_cells, row_word
from lookdown.errors import LookError, NoBlock, NoNumber, NothingDone, NotRunning
from lookdown.programs import Program, check_inputs, is_block_number, web_of
from lookdown.programtexts import end_line, end_told, value_line, value_told
from lookdown.texts import line_of, numbers_of, whole_lines
from lookdown.things import repriced, way_price


class Visit:
    """How far a run has come in a block, with the rows, places and end with which it came there.

    It is never changed: each row that is done gives another one.
    """

    def __init__(self, block, handed, code, end, done, words):
        self.block = block
        self.handed = handed
        self.code = code
        self.end = end
        self.done = done
        self.words = words

    def behind_row(self, program):
        """The Visit behind the next row."""
        way, sources, cell = self.code[0][self.done]
        words = list(self.words)
        words[cell] = row_word(program, self.handed, self.words, way, sources)
        return Visit(self.block, self.handed, self.code, self.end, self.done + 1, tuple(words))


class Workshop:
    """A program as it is now, the codes of its blocks, and a run of it."""

    def __init__(self, program):
        self._program = program
        # For each block what coded tells, None where no code is kept.
        self._codes = (None,) * len(program.blocks)
        # Where the run is, None without one; its word, None till it is over.
        self._visit = None
        self._word = None
        self._paid = 0
        self._worked = 0
        self._elder = []
        self._lines = []

    def start(self, inputs):
        """A run begins, ahead of the first row of block 0."""
        check_inputs(self._program, inputs)
        elder = self._kept()
        self._enter(0, inputs)
        self._word = None
        self._paid = 0
        self._write(elder, ["start", *inputs])

    def step(self):
        """Does the next row, or the end of the block: tells what was done."""
        if self._visit is None:
            raise NotRunning()
        elder = self._kept()
        rows = self._visit.code[0]
        if self._visit.done < len(rows):
            told = ("row", self._do_row(rows[self._visit.done][0]))
        else:
            told = self._do_end()
        self._write(elder, ["step"])
        return told

    def go(self, many):
        """At most so many steps, till the run is over: the list of what they tell."""
        if self._visit is None:
            raise NotRunning()
        if not is_between(0, 2000, many):
            raise NoNumber()
        told = []
        while len(told) < many and self._visit is not None:
            told.append(self.step())
        return told

    def stand(self):
        """Where the run is: the block, how many rows are done, what the cells hold; or how it ended; or None."""
        if self._visit is not None:
            return (self._visit.block, self._visit.done, self._visit.words)
        if self._word is not None:
            return ("over", self._word)
        return None

    def paid(self):
        """What the rows done in this run cost when they were done."""
        return self._paid

    def turn(self, block, values, end):
        """A block gets other values and another end."""
        program = self._program
        if not is_block_number(program, block):
            raise NoBlock()
        blocks = list(program.blocks)
        blocks[block] = (blocks[block][0], values, end)
        turned = Program(program.book, program.meanings, program.hand, program.test, tuple(blocks))
        elder = self._kept()
        self._program = turned
        self._codes = _replaced(self._codes, block, None)
        told = [line_of(["turn", block]), *[value_line(value) for value in values], end_line(end)]
        self._write(elder, [" | ".join(told)])

    def reprice(self, way, price):
        """A way gets another price."""
        program = self._program
        book = repriced(program.book, way, price)
        elder = self._kept()
        self._program = Program(book, program.meanings, program.hand, program.test, program.blocks)
        for block in range(len(program.blocks)):
            if _is_reached(program, block, way):
                self._codes = _replaced(self._codes, block, None)
        self._write(elder, [*way, price])

    def undo(self):
        """Takes back the last start, step, turn or reprice that is not taken back."""
        if not self._elder:
            raise NothingDone()
        self._program, self._codes, self._visit, self._word, self._paid = self._elder.pop()
        self._lines.append("undo")

    def program_now(self):
        """The Program as it is now."""
        return self._program

    def worked(self):
        """How many codes were made, undone or not."""
        return self._worked

    def copy(self):
        """A workshop that goes on apart."""
        other = Workshop(self._program)
        other._codes = self._codes
        other._visit = self._visit
        other._word = self._word
        other._paid = self._paid
        other._worked = self._worked
        other._elder = list(self._elder)
        other._lines = list(self._lines)
        return other

    def journal(self):
        """The text of all that was done, a line for each deed."""
        return "".join([line + "\n" for line in self._lines])

    def _kept(self):
        """All that undo puts back."""
        return (self._program, self._codes, self._visit, self._word, self._paid)

    def _write(self, elder, words):
        """Writes down a deed that was done, and what was ahead of it."""
        self._elder.append(elder)
        self._lines.append(line_of(words))

    def _enter(self, block, handed):
        """The run comes to a block, whose code is made if there is none; nothing is done if it cannot be made."""
        code = self._codes[block]
        if code is None:
            choice = own(self._program.book, web_of(self._program, block))
            code = coded(self._program, block, choice)
            self._codes = _replaced(self._codes, block, code)
            self._worked += 1
        words = (None,) * cells_of((code[0],))
        self._visit = Visit(block, handed, code, self._program.blocks[block][2], 0, words)

    def _do_row(self, way):
        """Does the next row, which has this way; returns the way."""
        self._visit = self._visit.behind_row(self._program)
        self._paid += way_price(self._program.book, way)
        return way

    def _do_end(self):
        """Does the end of the block; returns what step tells of it."""
        visit = self._visit
        block, handed = outcome_on_cells(self._program, visit.end, visit.code[1], visit.words)
        if block is None:
            self._visit = None
            self._word = handed
            return ("over", handed)
        self._enter(block, handed)
        return ("block", block)


def _replaced(items, at, item):
    """The tuple with another item at a place."""
    return (*items[:at], item, *items[at + 1:])


def _is_reached(program, block, way):
    """Whether the price of a way can tell in the code of a block."""
    word, k = way
    if word == "move":
        return True
    return any([op == program.book.rules[k][0] for op, _ in program.blocks[block][1]])


def relived(program, journal):
    """The pair of a Workshop in which the lines of a journal are done, and how many signs of it were."""
    lines = whole_lines(journal)
    workshop = Workshop(program)
    many = 0
    for line in lines:
        if not _is_done(workshop, line):
            break
        many += len(line) + 1
    return (workshop, many)


def _is_done(workshop, line):
    """Whether a line is written right and can be done in a workshop, in which it is done then."""
    lines = line.split(" | ")
    words = lines[0].split(" ")
    told = numbers_of(words[1:])
    if told is None:
        return False
    try:
        if len(lines) > 1:
            return words[0] == "turn" and len(told) == 1 and _is_turned(workshop, told[0], lines[1:])
        return _is_told_done(workshop, words[0], told)
    except LookError:
        return False


def _is_turned(workshop, block, lines):
    """Whether some lines tell the values and the end of a block; it is turned then, or an error is raised."""
    values = [value_told(line) for line in lines[:-1]]
    end = end_told(lines[-1])
    if None in values or end is None:
        return False
    workshop.turn(block, tuple(values), end)
    return True


def _is_told_done(workshop, word, told):
    """Whether a word with some numbers is a line; it is done then, or an error is raised."""
    many = len(told)
    if word == "start":
        workshop.start(told)
    elif word == "step" and many == 0:
        workshop.step()
    elif word in ("rule", "move") and many == 2:
        workshop.reprice((word, told[0]), told[1])
    elif word == "undo" and many == 0:
        workshop.undo()
    else:
        return False
    return True
