import unittest

from lookdown.books import Book
from lookdown.errors import BadBook, BadText, BadWeb
from lookdown.texts import book_text, read_book, read_web, web_text
from lookdown.webs import Web, beside
from tests.samples import (
    CHAIN,
    EMPTY_BOOK,
    EMPTY_WEB,
    MOVING,
    SHARED,
    STEPS,
    random_book,
    random_web,
    strange_objects,
)

CHAIN_TEXT = """ops 0 1 1
kinds 3
rule 0 0 1
rule 0 1 1
rule 1 0 1 0
rule 1 1 1 1
rule 2 2 2 0
rule 2 2 3 1"""
MOVING_TEXT = """ops 0 2 1
kinds 4
rule 0 0 5
rule 0 1 2
rule 1 0 7 0 0
rule 1 1 4 0 1
rule 2 0 1 2
move 0 1 1
move 1 0 1
move 2 3 1
move 3 2 1"""
HEAD = "ops 0 1\nkinds 2\n"
BAD_NUMBERS = ["00", "01", "-1", "+1", "1234567890", "0000000001", "a", "1a", "0x1", "1.0", "1_0", "", "True", "1,"]
NO_STRINGS = [None, 0, True, b"", b"ops 0\nkinds 1", ["ops 0"], ("ops 0",), *strange_objects()]

GREATEST_BOOK = Book(
    (2,) * 8,
    5,
    tuple((7, (a, b), kind, 1000) for a in range(5) for b in range(5) for kind in range(2))[:40],
    tuple((source, kind, 1000) for source in range(5) for kind in range(5) if source != kind),
)
GREATEST_WEB = Web(((7, ()),) + tuple((7, (k, k)) for k in range(199)))


class BookTextTest(unittest.TestCase):
    def test_texts(self):
        self.assertEqual(book_text(CHAIN), CHAIN_TEXT)
        self.assertEqual(book_text(MOVING), MOVING_TEXT)
        self.assertEqual(book_text(EMPTY_BOOK), "ops 0\nkinds 1")

    def test_there_and_back(self):
        for book in [CHAIN, MOVING, EMPTY_BOOK, GREATEST_BOOK, *[random_book(seed) for seed in range(30)]]:
            again = read_book(book_text(book))
            self.assertEqual(again, book)
            for part in (again.arities, again.rules, again.moves, *again.rules, *again.moves):
                self.assertIsInstance(part, tuple)

    def test_greatest_text(self):
        text = book_text(GREATEST_BOOK)
        self.assertEqual(len(text.split("\n")), 62)
        self.assertEqual(book_text(read_book(text)), text)


class ReadBookTest(unittest.TestCase):
    def bad(self, line, text):
        with self.assertRaises(BadText) as caught:
            read_book(text)
        self.assertEqual(caught.exception.line, line, text)

    def bad_book(self, part, text):
        with self.assertRaises(BadBook) as caught:
            read_book(text)
        self.assertEqual(caught.exception.part, part, text)

    def test_no_string(self):
        for odd in NO_STRINGS:
            if not isinstance(odd, str):
                self.bad(0, odd)

    def test_first_line(self):
        for line in ["", " ", "op 0", "Ops 0", "ops  0", " ops 0", "ops 0 ", "ops ", "ops 0  1", "0", "kinds 1", "ops0"]:
            self.bad(1, line)
            self.bad(1, line + "\nkinds 1")
        for word in BAD_NUMBERS:
            self.bad(1, "ops 0 " + word + "\nkinds 1")
            self.bad(1, "ops " + word + " 0\nkinds 1")

    def test_second_line(self):
        for line in ["", " ", "kinds", "kinds ", "kinds 1 1", "kinds 1 ", " kinds 1", "kinds  1", "kind 1", "ops 0", "rule 0 0 1", "move 0 1 1"]:
            self.bad(2, "ops 0\n" + line)
            self.bad(2, "ops 0\n" + line + "\nno")
        for word in BAD_NUMBERS:
            self.bad(2, "ops 0\nkinds " + word)

    def test_second_line_lacking(self):
        self.bad(2, "ops 0")
        self.bad(2, "ops")
        self.bad(2, "ops 9 9 9")

    def test_rules(self):
        for line in ["rule", "rule ", "rule 0", "rule 0 0", "rule 0 0 ", "rule 0 0 1 ", " rule 0 0 1", "rule  0 0 1", "rule 0 0  1", "Rule 0 0 1"]:
            self.bad(3, HEAD + line)
            self.bad(4, HEAD + "rule 0 0 1\n" + line + "\nno")
        for word in BAD_NUMBERS:
            for told in ["rule {} 0 1", "rule 0 {} 1", "rule 0 0 {}", "rule 1 0 1 {}", "rule 1 0 1 {} 0"]:
                self.bad(3, HEAD + told.format(word))

    def test_moves(self):
        for line in ["move", "move ", "move 0", "move 0 1", "move 0 1 1 1", "move 0 1 1 ", " move 0 1 1", "move  0 1 1", "moves 0 1 1"]:
            self.bad(3, HEAD + line)
            self.bad(5, HEAD + "rule 0 0 1\nmove 1 0 1\n" + line + "\nno")
        for word in BAD_NUMBERS:
            for told in ["move {} 1 1", "move 0 {} 1", "move 0 1 {}"]:
                self.bad(3, HEAD + told.format(word))

    def test_a_move_ahead_of_a_rule(self):
        self.bad(4, HEAD + "move 0 1 1\nrule 0 0 1")
        self.bad(5, HEAD + "rule 0 0 1\nmove 0 1 1\nrule 0 1 1\nmove 1 0 1")

    def test_lines_out_of_place(self):
        for line in ["ops 0", "kinds 1", "value 0", "0", "#", "move0 1 1"]:
            self.bad(3, HEAD + line)
            self.bad(4, HEAD + "move 0 1 1\n" + line)

    def test_empty_lines(self):
        self.bad(1, "")
        self.bad(1, "\n")
        self.bad(2, "ops 0\n")
        self.bad(2, "ops 0\n\nkinds 1")
        self.bad(3, "ops 0\nkinds 1\n")
        self.bad(3, HEAD + "\nrule 0 0 1")
        self.bad(4, HEAD + "rule 0 0 1\n\nmove 0 1 1")
        self.bad(4, HEAD + "rule 0 0 1\n")
        self.bad(4, HEAD + "move 0 1 1\n")
        self.bad(1, "\n" + CHAIN_TEXT)
        self.bad(9, CHAIN_TEXT + "\n")

    def test_the_first_wrong_line_is_told(self):
        self.bad(1, "op\nkind\nrul\nmov")
        self.bad(3, HEAD + "rul\nmov")
        self.bad(3, HEAD + "move 0\nrule 0 0 1")
        self.bad(3, HEAD + "rule 0\nmove 0")

    def test_signs_of_other_scripts(self):
        self.bad(1, "ops \u0663\nkinds 1")
        self.bad(2, "ops 0\nkinds \u00b2")

    def test_written_right_and_no_book(self):
        self.bad_book(("arities",), "ops\nkinds 1")
        self.bad_book(("arities",), "ops 3\nkinds 1")
        self.bad_book(("arities",), "ops 0 0 0 0 0 0 0 0 0\nkinds 1")
        self.bad_book(("arities",), "ops 123456789\nkinds 0\nrule 9 9 9")
        self.bad_book(("arities",), "ops " + " ".join(["1"] * 2000) + "\nkinds 1")
        self.bad_book(("kinds",), "ops 0\nkinds 0")
        self.bad_book(("kinds",), "ops 0\nkinds 999999999")
        self.bad_book(("rules",), HEAD + "\n".join(["rule 0 0 1"] * 41))
        self.bad_book(("moves",), HEAD + "\n".join(["move 0 1 1"] * 21))
        self.bad_book(("rule", 0), HEAD + "rule 2 0 1\nmove 0 0 1")
        self.bad_book(("rule", 0), HEAD + "rule 0 2 1")
        self.bad_book(("rule", 0), HEAD + "rule 0 0 0")
        self.bad_book(("rule", 0), HEAD + "rule 0 0 1001")
        self.bad_book(("rule", 0), HEAD + "rule 0 0 1 0")
        self.bad_book(("rule", 0), HEAD + "rule 1 0 1")
        self.bad_book(("rule", 0), HEAD + "rule 1 0 1 0 0 0 0 0 0")
        self.bad_book(("rule", 1), HEAD + "rule 0 0 1\nrule 0 0 2")
        self.bad_book(("move", 0), HEAD + "rule 0 0 1\nmove 0 0 1")
        self.bad_book(("move", 1), HEAD + "move 0 1 1\nmove 0 1 1")

    def test_lines_come_ahead_of_the_book(self):
        self.bad(3, "ops 3\nkinds 9\nno")

    def test_greatest_numbers_are_read(self):
        self.assertEqual(read_book("ops 0\nkinds 1\nrule 0 0 1000").rules, ((0, (), 0, 1000),))


class WebTextTest(unittest.TestCase):
    def test_texts(self):
        self.assertEqual(web_text(EMPTY_WEB), "")
        self.assertEqual(web_text(STEPS), "0\n1 0\n2 1")
        self.assertEqual(web_text(SHARED), "0\n0\n1 0 0\n1 0 2\n2 3")

    def test_there_and_back(self):
        webs = [EMPTY_WEB, STEPS, SHARED, GREATEST_WEB]
        webs.extend([random_web(seed, random_book(seed), 15) for seed in range(30)])
        for web in webs:
            again = read_web(web_text(web))
            self.assertEqual(again, web)
            for op, parts in again.rows:
                self.assertIsInstance(parts, tuple)

    def test_a_greater_web(self):
        text = web_text(beside(GREATEST_WEB, STEPS))
        self.assertEqual(text, web_text(GREATEST_WEB) + "\n0\n1 200\n2 201")
        with self.assertRaises(BadWeb) as caught:
            read_web(text)
        self.assertEqual(caught.exception.index, -1)


class ReadWebTest(unittest.TestCase):
    def bad(self, line, text):
        with self.assertRaises(BadText) as caught:
            read_web(text)
        self.assertEqual(caught.exception.line, line, text)

    def bad_web(self, index, text):
        with self.assertRaises(BadWeb) as caught:
            read_web(text)
        self.assertEqual(caught.exception.index, index, text)

    def test_no_string(self):
        for odd in NO_STRINGS:
            if not isinstance(odd, str):
                self.bad(0, odd)

    def test_empty_string(self):
        self.assertEqual(read_web(""), EMPTY_WEB)

    def test_empty_lines(self):
        self.bad(1, "\n")
        self.bad(2, "0\n")
        self.bad(2, "0\n\n0")
        self.bad(1, "\n0")
        self.bad(4, "0\n1 0\n2 1\n")

    def test_blanks(self):
        for line in [" ", "0 ", " 0", "1  0", "1 0 ", "1 0  0"]:
            self.bad(1, line)
            self.bad(3, "0\n0\n" + line + "\nno")

    def test_numbers(self):
        for word in BAD_NUMBERS:
            self.bad(1, word + "\n" if word == "" else word)
            self.bad(2, "0\n" + word + " 0")
            self.bad(2, "0\n1 " + word)
            self.bad(2, "0\n1 0 " + word + " 0")

    def test_written_right_and_no_web(self):
        self.bad_web(0, "8")
        self.bad_web(0, "999999999")
        self.bad_web(0, "0 0")
        self.bad_web(1, "0\n1 1")
        self.bad_web(1, "0\n1 0 0 0")
        self.bad_web(1, "0\n1" + " 0" * 2000)
        self.bad_web(-1, "\n".join(["0"] * 201))
        self.assertEqual(len(read_web("\n".join(["0"] * 200)).rows), 200)

    def test_lines_come_ahead_of_the_web(self):
        self.bad(3, "8\n9\nno")
        self.bad(250, "\n".join(["0"] * 249) + "\n")


if __name__ == "__main__":
    unittest.main()
