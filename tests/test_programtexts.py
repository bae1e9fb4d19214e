import unittest

from lookdown.books import Book
from lookdown.errors import BadBook, BadProgram, BadText
from lookdown.programs import Program
from lookdown.programtexts import program_text, read_program
from lookdown.texts import book_text
from tests.programs import SEVEN, TIMES, random_program
from tests.samples import strange_objects, strange_tuples
from tests.test_texts import BAD_NUMBERS

# All meanings, all ends, a block without values.
ALL = Program(
    Book(
        (0, 0, 1, 1, 2, 2, 2, 2),
        3,
        ((0, (), 0, 7), (2, (1,), 2, 1000), (4, (0, 2), 1, 3)),
        ((0, 1, 4), (1, 0, 5)),
    ),
    (("num", 65535), ("place", 3), ("not",), ("half",), ("sum",), ("minus",), ("times",), ("less",)),
    2,
    1,
    (
        (4, ((0, ()), (1, ()), (4, (0, 1)), (2, (2,))), ("if", 3, (1, (2, 1)), (0, (0, 1, 2, 3)))),
        (2, ((0, ()),), ("back", 0)),
        (0, (), ("go", (2, ()))),
        (0, ((0, ()), (7, (0, 0))), ("go", (1, (0, 1)))),
        (0, ((0, ()),), ("if", 0, (2, ()), (3, ()))),
    ),
)
ALL_TEXT = """ops 0 0 1 1 2 2 2 2
kinds 3
rule 0 0 7
rule 2 2 1000 1
rule 4 1 3 0 2
move 0 1 4
move 1 0 5
mean 0 num 65535
mean 1 place 3
mean 2 not
mean 3 half
mean 4 sum
mean 5 minus
mean 6 times
mean 7 less
hand 2 test 1
block 4
value 0
value 1
value 4 0 1
value 2 2
if 3 1 2 1 else 0 0 1 2 3
block 2
value 0
back 0
block 0
go 2
block 0
value 0
value 7 0 0
go 1 0 1
block 0
value 0
if 0 2 else 3"""
SEVEN_LINES = ["ops 0", "kinds 1", "rule 0 0 1", "mean 0 num 7", "hand 0 test 0", "block 0", "value 0", "back 0"]


class ProgramTextTest(unittest.TestCase):
    def test_texts(self):
        self.assertEqual(program_text(ALL), ALL_TEXT)
        self.assertEqual(program_text(SEVEN), "\n".join(SEVEN_LINES))
        self.assertTrue(program_text(TIMES).startswith(book_text(TIMES.book) + "\nmean 0 num 0\nmean 1 num 1\n"))

    def test_there_and_back(self):
        for told in [ALL, SEVEN, TIMES, *[random_program(seed) for seed in range(100)]]:
            again = read_program(program_text(told))
            self.assertEqual(again, told)
            self.assertEqual(program_text(again), program_text(told))
        self.assertEqual(read_program(ALL_TEXT), ALL)

    def test_the_greatest_text(self):
        book = Book(
            (0, 0) + (2,) * 6,
            5,
            tuple((7, (a, b), kind, 1000) for a in range(5) for b in range(5) for kind in range(2))[:40],
            tuple((source, kind, 1000) for source in range(5) for kind in range(5) if source != kind),
        )
        values = ((0, ()), (1, ())) + tuple((7, (k, k)) for k in range(1, 199))
        end = ("if", 199, (11, (199,) * 4), (0, (199,) * 4))
        meanings = (("num", 65535), ("place", 3)) + (("minus",),) * 6
        told = Program(book, meanings, 4, 4, ((4, values, end),) * 12)
        self.assertEqual(read_program(program_text(told)), told)


class ReadProgramTest(unittest.TestCase):
    def bad(self, line, lines):
        with self.assertRaises(BadText) as caught:
            read_program("\n".join(lines))
        self.assertEqual(caught.exception.line, line, lines)

    def bad_in_place(self, at, line, base=None):
        """A line is wrong in the place of another one, whatever comes behind; at is counted from 1."""
        lines = list(SEVEN_LINES if base is None else base)
        self.bad(at, lines[:at - 1] + [line])
        self.bad(at, lines[:at - 1] + [line] + lines[at:])
        self.bad(at, lines[:at - 1] + [line] + lines[at - 1:])
        self.bad(at, lines[:at - 1] + [line, "no", ""])

    def bad_program(self, part, lines):
        with self.assertRaises(BadProgram) as caught:
            read_program("\n".join(lines))
        self.assertEqual(caught.exception.part, part, lines)

    def bad_book(self, part, lines):
        with self.assertRaises(BadBook) as caught:
            read_program("\n".join(lines))
        self.assertEqual(caught.exception.part, part, lines)

    def test_no_string(self):
        for odd in [None, 0, True, b"ops 0", ["ops 0"], *strange_objects(), *strange_tuples()]:
            if not isinstance(odd, str):
                with self.assertRaises(BadText) as caught:
                    read_program(odd)
                self.assertEqual(caught.exception.line, 0)

    def test_cut_behind_each_line(self):
        lines = ALL_TEXT.split("\n")
        ends = {22: ("block", 0), 25: None, 27: None, 31: None, 34: None}
        for cut in range(1, len(lines) + 1):
            if cut == 16:
                self.bad_program(("blocks",), lines[:cut])
            elif cut == 22:
                # All that stands there is written right, but the first block goes to a lacking one.
                self.bad_program(ends[cut], lines[:cut])
            elif cut in ends:
                self.assertEqual(len(read_program("\n".join(lines[:cut])).blocks), {25: 2, 27: 3, 31: 4, 34: 5}[cut])
            else:
                self.bad(cut + 1, lines[:cut])
                self.bad(cut + 1, lines[:cut] + [""])
        self.bad(1, [""])

    def test_no_block_at_all(self):
        self.bad_program(("blocks",), SEVEN_LINES[:5])
        self.bad_program(("meanings",), SEVEN_LINES[:3] + ["mean 0 not"] + SEVEN_LINES[4:5])
        self.bad(6, SEVEN_LINES[:5] + [""])

    def test_lines_of_the_book(self):
        for line in ["", "op 0", "Ops 0", " ops 0", "ops  0", "ops 0 ", "kinds 1", "mean 0 num 7", "hand 0 test 0"]:
            self.bad_in_place(1, line)
        for line in ["", "kinds", "kinds 1 1", "kinds 01", "ops 0", "rule 0 0 1", "mean 0 num 7", "hand 0 test 0"]:
            self.bad_in_place(2, line)
        for line in ["", "rule", "rule 0 0", "rule 0 0 1 ", "move 0 1", "move 0 1 1 1", "ops 0", "kinds 1", "block 0", "value 0"]:
            self.bad_in_place(3, line)

    def test_a_rule_behind_a_move(self):
        self.bad(4, SEVEN_LINES[:2] + ["move 0 1 1", "rule 0 0 1"] + SEVEN_LINES[3:])
        self.bad(5, SEVEN_LINES[:3] + ["mean 0 num 7", "rule 0 0 1"])
        self.bad(5, SEVEN_LINES[:3] + ["mean 0 num 7", "move 0 0 1"])
        self.bad(6, SEVEN_LINES[:5] + ["rule 0 0 1"] + SEVEN_LINES[5:])
        self.bad(9, SEVEN_LINES + ["rule 0 0 1"])
        self.bad(9, SEVEN_LINES + ["move 0 0 1"])

    def test_meanings(self):
        for line in [
            "",
            "mean",
            "mean 0",
            "mean 0 ",
            "mean 0 num",
            "mean 0 num ",
            "mean 0 num 7 ",
            "mean 0 num 7 7",
            "mean 0 place",
            "mean 0 place 0 0",
            "mean 0 not 0",
            "mean 0 half 1",
            "mean 0 sum 0",
            "mean 0 minus 0 0",
            "mean 0 times 1",
            "mean 0 less 0",
            "mean 0 not ",
            "mean 0 Num 7",
            "mean 0 number 7",
            "mean 0 7",
            "mean 0 num num 7",
            "mean 0  num 7",
            " mean 0 num 7",
            "mean 00 num 7",
            "mean num 7",
            "Mean 0 num 7",
            "mean 1 num 7",
            "hand 0 test 0",
            "block 0",
        ]:
            self.bad_in_place(4, line)
        for word in BAD_NUMBERS:
            self.bad_in_place(4, "mean 0 num " + word)
            self.bad_in_place(4, "mean 0 place " + word)

    def test_meanings_out_of_order(self):
        head = ["ops 0 0 0", "kinds 1"]
        mean = ["mean 0 num 1", "mean 1 num 1", "mean 2 num 1"]
        rest = SEVEN_LINES[4:]
        self.assertEqual(len(read_program("\n".join(head + mean + rest)).meanings), 3)
        self.bad(3, head + [mean[1], mean[0], mean[2]] + rest)
        self.bad(4, head + [mean[0], mean[0], mean[2]] + rest)
        self.bad(4, head + [mean[0], mean[2], mean[1]] + rest)
        self.bad(3, head + rest)
        self.bad(4, head + mean[:1] + rest)
        self.bad(5, head + mean[:2] + rest)
        self.bad(6, head + mean + ["mean 3 num 1"] + rest)
        self.bad(6, head + mean + mean[2:] + rest)
        self.bad(4, head + mean[:1])

    def test_more_ops_than_a_book_has(self):
        many = ["mean " + str(op) + " num 1" for op in range(12)]
        self.bad_book(("arities",), ["ops" + " 0" * 12, "kinds 1"] + many + SEVEN_LINES[4:])
        self.bad(14, ["ops" + " 0" * 12, "kinds 1"] + many[:11] + SEVEN_LINES[4:])
        self.bad_book(("arities",), ["ops", "kinds 1"] + SEVEN_LINES[4:])
        self.bad(3, ["ops", "kinds 1"] + SEVEN_LINES[3:])

    def test_hand_and_test(self):
        for line in [
            "",
            "hand",
            "hand 0",
            "hand 0 test",
            "hand 0 test ",
            "hand 0 test 0 0",
            "hand 0 test 0 ",
            "hand 0  test 0",
            " hand 0 test 0",
            "hand test 0 0",
            "test 0 hand 0",
            "hand 0 hand 0",
            "Hand 0 test 0",
            "hand 0 0",
            "hand 0 test 0 test 0",
            "mean 0 num 7",
            "mean 1 num 7",
            "block 0",
        ]:
            self.bad_in_place(5, line)
        for word in BAD_NUMBERS:
            self.bad_in_place(5, "hand " + word + " test 0")
            self.bad_in_place(5, "hand 0 test " + word)

    def test_blocks(self):
        for line in ["", "block", "block ", "block 0 0", "block  0", " block 0", "Block 0", "block 0 ", "value 0", "back 0"]:
            self.bad_in_place(6, line)
            self.bad_in_place(9, line, SEVEN_LINES + SEVEN_LINES[5:])
        for line in ["go 0", "if 0 0 else 0", "mean 0 num 7", "mean 1 num 7", "hand 0 test 0", "ops 0", "kinds 1"]:
            self.bad_in_place(6, line)
            self.bad_in_place(9, line, SEVEN_LINES + SEVEN_LINES[5:])
        for word in BAD_NUMBERS:
            self.bad_in_place(6, "block " + word)

    def test_values(self):
        for line in ["", "value", "value ", "value  0", " value 0", "value 0 ", "Value 0", "values 0", "0", "block 0", "else 0"]:
            self.bad_in_place(7, line)
            self.bad_in_place(8, line)
        for word in BAD_NUMBERS:
            self.bad_in_place(7, "value " + word)
            self.bad_in_place(7, "value 0 " + word)
            self.bad_in_place(7, "value 0 0 " + word + " 0")

    def test_ends(self):
        for line in [
            "back",
            "back ",
            "back 0 0",
            "back  0",
            "Back 0",
            " back 0",
            "back 0 ",
            "go",
            "go ",
            "go 0 ",
            "go  0",
            "Go 0",
            "go 0 else 0",
            "if",
            "if 0",
            "if 0 0",
            "if 0 else 0",
            "if else 0",
            "if 0 0 else",
            "if 0 0 else ",
            "if 0 0  else 0",
            "if 0 0 else  0",
            "if 0 0 else 0 ",
            "if 0 0 else 0 else 0",
            "if 0 0 else else 0",
            "if 0 0 Else 0",
            "if 0 0 0",
            "If 0 0 else 0",
            "else 0",
            "hand 0 test 0",
            "mean 0 num 7",
            "rule 0 0 1",
        ]:
            self.bad_in_place(8, line)
        for word in BAD_NUMBERS:
            for told in ["back {}", "go {}", "go 0 {}", "if {} 0 else 0", "if 0 {} else 0", "if 0 0 {} else 0"]:
                self.bad_in_place(8, told.format(word))
            self.bad_in_place(8, "if 0 0 else " + word)
            self.bad_in_place(8, "if 0 0 else 0 " + word)

    def test_lines_behind_the_end(self):
        for line in ["", " ", "value 0", "back 0", "go 0", "no"]:
            self.bad(9, SEVEN_LINES + [line])
            self.bad(9, SEVEN_LINES + [line, "no"])

    def test_the_first_bad_line_is_told(self):
        self.bad(1, ["op 0", "kind 1", "rul", "meen"])
        self.bad(3, SEVEN_LINES[:2] + ["rule", "mean", "hand"])
        self.bad(4, SEVEN_LINES[:3] + ["mean 1 num 7", "hand", "block"])
        self.bad(7, SEVEN_LINES[:6] + ["value", "back"])

    def test_bad_lines_come_ahead_of_the_book(self):
        self.bad(8, ["ops 9", "kinds 9", "rule 9 9 9"] + SEVEN_LINES[3:7] + ["no"])
        self.bad(9, ["ops 0", "kinds 1", "rule 9 9 9"] + SEVEN_LINES[3:] + ["no"])
        self.bad(5, ["ops 9", "kinds 9", "rule 9 9 9", "mean 0 num 7"])

    def test_the_book_comes_ahead_of_the_program(self):
        self.bad_book(("arities",), ["ops 9", "kinds 9", "mean 0 not", "hand 9 test 9"])
        self.bad_book(("kinds",), ["ops 0", "kinds 9", "mean 0 not", "hand 9 test 9"])
        self.bad_book(("rule", 0), SEVEN_LINES[:2] + ["rule 0 1 1", "mean 0 not", "hand 9 test 9"])
        self.bad_book(("move", 0), SEVEN_LINES[:3] + ["move 0 0 1", "mean 0 not", "hand 9 test 9"])

    def test_written_right_and_no_program(self):
        for at, line, part in [
            (4, "mean 0 num 65536", ("meanings",)),
            (4, "mean 0 num 999999999", ("meanings",)),
            (4, "mean 0 place 4", ("meanings",)),
            (4, "mean 0 not", ("meanings",)),
            (4, "mean 0 sum", ("meanings",)),
            (5, "hand 1 test 9", ("hand",)),
            (5, "hand 0 test 1", ("test",)),
            (6, "block 5", ("block", 0)),
            (6, "block 999999999", ("block", 0)),
            (7, "value 1", ("block", 0)),
            (7, "value 0 0", ("block", 0)),
            (7, "value 0" + " 0" * 1000, ("block", 0)),
            (8, "back 1", ("block", 0)),
            (8, "go 1", ("block", 0)),
            (8, "go 0 0", ("block", 0)),
            (8, "if 0 0 else 0 0", ("block", 0)),
            (8, "if 1 0 else 0", ("block", 0)),
        ]:
            self.bad_program(part, SEVEN_LINES[:at - 1] + [line] + SEVEN_LINES[at:])
        self.bad_program(("blocks",), SEVEN_LINES + SEVEN_LINES[5:] * 12)
        self.bad_program(("block", 0), SEVEN_LINES[:6] + ["value 0"] * 201 + ["back 0"])
        self.bad_program(("block", 1), SEVEN_LINES + ["block 0", "back 0"])


if __name__ == "__main__":
    unittest.main()
