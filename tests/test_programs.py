import copy
import unittest

from lookdown.books import Book
from lookdown.errors import BadProgram, NoBlock, NoInputs, NoNumber
from lookdown.programs import Program, plain, web_of, wishes_of
from lookdown.webs import Web
from tests.programs import (
    SEVEN,
    TIMES,
    TIMES_BLOCKS,
    TIMES_BOOK,
    TIMES_MEANINGS,
    random_inputs,
    random_program,
    worked,
)
from tests.samples import CHAIN, STEPS, nested, strange_objects, strange_tuples

ODD = strange_objects() + strange_tuples()
BAD_MEANINGS = [
    ("num",),
    ("num", -1),
    ("num", 65536),
    ("num", True),
    ("num", "1"),
    ("num", 1, 1),
    ["num", 1],
    ("Num", 1),
    (b"num", 1),
    ("num ", 1),
    ("place",),
    ("place", -1),
    ("place", 4),
    ("place", False),
    ("place", 0, 0),
    ("not",),
    ("half",),
    ("sum",),
    ("less",),
    ("numb", 1),
    ("",),
    (),
    "num",
    *ODD,
    *[("num", odd) for odd in strange_objects()],
    *[(odd, 1) for odd in strange_objects()],
    *[(odd,) for odd in strange_objects()],
]


def program(**told):
    """As TIMES, with some other parts."""
    parts = {"book": TIMES_BOOK, "meanings": TIMES_MEANINGS, "hand": 0, "test": 1, "blocks": TIMES_BLOCKS, **told}
    return Program(parts["book"], parts["meanings"], parts["hand"], parts["test"], parts["blocks"])


def with_block(number, block):
    """The blocks of TIMES with another one in a place."""
    return TIMES_BLOCKS[:number] + (block,) + TIMES_BLOCKS[number + 1:]


def word_of(meaning, of_parts, handed):
    """The word of a value, by the words of the document."""
    word, *more = meaning
    if word in ("num", "place"):
        return more[0] if word == "num" else handed[more[0]]
    if word in ("not", "half"):
        return 65535 - of_parts[0] if word == "not" else of_parts[0] // 2
    first, second = of_parts
    return {
        "sum": (first + second) % 65536,
        "minus": (first - second) % 65536,
        "times": (first * second) % 65536,
        "less": int(first < second),
    }[word]


def words_of(told, block, handed):
    """The words of all values of a block."""
    found = []
    for op, parts in told.blocks[block][1]:
        found.append(word_of(told.meanings[op], [found[part] for part in parts], handed))
    return found


def told_run(told, inputs, most):
    """The run, and the list of the blocks done."""
    block, handed, done = 0, inputs, []
    while len(done) < most:
        words = words_of(told, block, handed)
        end = told.blocks[block][2]
        done.append(block)
        if end[0] == "back":
            return (words[end[1]], done)
        target = end[1] if end[0] == "go" else end[2 if words[end[1]] != 0 else 3]
        block, handed = target[0], [words[value] for value in target[1]]
    return (None, done)


class ProgramTest(unittest.TestCase):
    def bad(self, part, **told):
        with self.assertRaises(BadProgram) as caught:
            program(**told)
        self.assertEqual(caught.exception.part, part)

    def bad_block(self, block):
        """A thing is no block, in each place, whatever comes behind; no target asks for its places here."""
        for number in range(3):
            blocks = tuple((0, ((0, ()),), ("back", 0)) for _ in range(number)) + (block,)
            self.bad(("block", number), blocks=blocks)
            self.bad(("block", number), blocks=blocks + (None,))

    def test_attributes(self):
        for told in [TIMES, SEVEN]:
            again = Program(told.book, told.meanings, told.hand, told.test, told.blocks)
            self.assertEqual(again, told)
        self.assertEqual((TIMES.book, TIMES.meanings, TIMES.hand), (TIMES_BOOK, TIMES_MEANINGS, 0))
        self.assertEqual((TIMES.test, TIMES.blocks), (1, TIMES_BLOCKS))

    def test_equality(self):
        self.assertEqual(program(), TIMES)
        self.assertEqual(program(book=Book(TIMES_BOOK.arities, 2, TIMES_BOOK.rules, TIMES_BOOK.moves)), TIMES)
        for told in [
            {"book": Book(TIMES_BOOK.arities, 2, TIMES_BOOK.rules, ())},
            {"meanings": (("num", 1),) + TIMES_MEANINGS[1:]},
            {"hand": 1},
            {"test": 0},
            {"blocks": with_block(3, (1, ((0, ()),), ("back", 0)))},
        ]:
            self.assertNotEqual(program(**told), TIMES)
        for odd in [TIMES_BOOK, TIMES_BLOCKS, STEPS, None, 0, (TIMES_BOOK, TIMES_MEANINGS, 0, 1, TIMES_BLOCKS)]:
            self.assertFalse(TIMES == odd)
            self.assertFalse(odd == TIMES)

    def test_no_book(self):
        for odd in [TIMES, STEPS, Book, *[odd for odd in ODD if odd is not CHAIN]]:
            self.bad(("book",), book=odd)
            self.bad(("book",), book=odd, meanings=None, hand=9, test=9, blocks=None)

    def test_meanings(self):
        for odd in [[*TIMES_MEANINGS], TIMES_MEANINGS[1:], TIMES_MEANINGS + (("num", 1),), None, "num", *ODD]:
            self.bad(("meanings",), meanings=odd)
            self.bad(("meanings",), meanings=odd, hand=9, test=9, blocks=None)
        for odd in BAD_MEANINGS:
            self.bad(("meanings",), meanings=(odd,) + TIMES_MEANINGS[1:])
        for odd in [("num", 1), ("place", 0), ("not",), ("half",), ("sum", 1), ("sum", ()), (("sum",),), "sum", *ODD]:
            self.bad(("meanings",), meanings=TIMES_MEANINGS[:6] + (odd,))

    def test_meanings_of_ops_with_other_counts_of_parts(self):
        for arity, right in [(0, [("num", 0), ("num", 65535), ("place", 0), ("place", 3)]), (1, [("not",), ("half",)])]:
            wrong = [("sum",), ("minus",), ("times",), ("less",)]
            wrong += [("not",), ("half",)] if arity == 0 else [("num", 0), ("place", 0)]
            book = Book((0, arity), 1, (), ())
            blocks = ((0, ((0, ()),), ("back", 0)),)
            for meaning in right:
                Program(book, (("num", 0), meaning), 0, 0, blocks)
            for meaning in wrong:
                with self.assertRaises(BadProgram) as caught:
                    Program(book, (("num", 0), meaning), 0, 0, blocks)
                self.assertEqual(caught.exception.part, ("meanings",))
        for meaning in [("sum",), ("minus",), ("times",), ("less",)]:
            program(meanings=TIMES_MEANINGS[:6] + (meaning,))

    def test_hand_and_test(self):
        for odd in [-1, 2, True, False, "0", None, *ODD]:
            self.bad(("hand",), hand=odd)
            self.bad(("hand",), hand=odd, test=9, blocks=None)
            self.bad(("test",), test=odd)
            self.bad(("test",), test=odd, blocks=None)
        for kind in range(2):
            program(hand=kind, test=kind)

    def test_blocks(self):
        one_more = TIMES_BLOCKS * 3 + (TIMES_BLOCKS[3],)
        for odd in [(), [*TIMES_BLOCKS], one_more, (None,) * 13, *strange_objects()]:
            if not (isinstance(odd, tuple) and 1 <= len(odd) <= 12):
                self.bad(("blocks",), blocks=odd)
        self.assertEqual(len(program(blocks=TIMES_BLOCKS * 3).blocks), 12)
        self.bad(("block", 0), blocks=(None,) * 12)
        self.bad(("block", 0), blocks=TIMES_BLOCKS[0])

    def test_the_first_block_that_is_none(self):
        right = (0, ((0, ()),), ("back", 0))
        for odd in ODD + [[0, ((0, ()),), ("back", 0)], right[:2], right + (0,)]:
            self.bad_block(odd)

    def test_places(self):
        for places in range(5):
            program(blocks=((places, ((0, ()),), ("back", 0)),))
        for odd in [5, -1, True, False, "0", None, *strange_objects()]:
            self.bad_block((odd, ((0, ()),), ("back", 0)))

    def test_values(self):
        for values in [
            [(0, ())],
            ((0, ()), [0, ()]),
            ((0, ()), (0, [])),
            ((0, ()), (7, ())),
            ((0, ()), (-1, ())),
            ((0, ()), (True, ())),
            ((0, ()), (0, (0,))),
            ((0, ()), (5, (0,))),
            ((0, ()), (5, (0, 1))),
            ((0, ()), (5, (0, -1))),
            ((0, ()), (5, (0, False))),
            ((0, ()), (5, (0, 0), 0)),
            ((0, ()), None),
            None,
            0,
            *[odd for odd in ODD if odd != ()],
            *[((0, ()), odd) for odd in ODD],
        ]:
            self.bad_block((0, values, ("back", 0)))
        # A block without values has nothing to give back, to test or to hand on.
        self.bad_block((0, (), ("back", 0)))
        self.bad_block((0, (), ("if", 0, (0, ()), (0, ()))))
        program(blocks=((0, (), ("go", (0, ()))),))

    def test_200_values_and_more(self):
        self.assertEqual(len(program(blocks=((0, ((0, ()),) * 200, ("back", 199)),)).blocks[0][1]), 200)
        self.bad_block((0, ((0, ()),) * 201, ("back", 0)))

    def test_places_of_values(self):
        for op, place in [(2, 0), (3, 1), (4, 2)]:
            for places in range(5):
                block = (places, ((0, ()), (op, ())), ("back", 0))
                if place < places:
                    program(blocks=(block,))
                else:
                    self.bad_block(block)

    def test_ends(self):
        values = ((0, ()), (1, ()))
        for end in [("back", 0), ("back", 1), ("go", (0, ())), ("if", 1, (0, ()), (0, ()))]:
            program(blocks=((0, values, end),))
        for end in [
            ("back",),
            ("back", 2),
            ("back", -1),
            ("back", True),
            ("back", False),
            ("back", (0,)),
            ("back", 0, 0),
            ["back", 0],
            ("Back", 0),
            (b"back", 0),
            ("stay", 0),
            ("stay", 0, (0, ()), (0, ())),
            ("go",),
            ("go", 0),
            ("go", 0, ()),
            ("go", (0, ()), (0, ())),
            ("go", [0, ()]),
            ("if", 0),
            ("if", 0, (0, ())),
            ("if", 2, (0, ()), (0, ())),
            ("if", -1, (0, ()), (0, ())),
            ("if", True, (0, ()), (0, ())),
            ("if", 0, (0, ()), 0),
            ("if", 0, 0, (0, ())),
            ("if", 0, (0, ()), (0, ()), (0, ())),
            ("if", (0, ()), (0, ())),
            *ODD,
            *[("back", odd) for odd in strange_objects()],
            *[("go", odd) for odd in ODD],
            *[("if", 0, (0, ()), odd) for odd in ODD],
            *[("if", odd, (0, ()), (0, ())) for odd in strange_objects()],
            *[(odd, 0) for odd in strange_objects()],
        ]:
            self.bad(("block", 0), blocks=((0, values, end),))

    def test_targets(self):
        for target in [(1, (0, 0)), (1, (1, 0)), (0, ())]:
            for end in [("go", target), ("if", 0, target, (0, ())), ("if", 0, (0, ()), target)]:
                program(blocks=((0, ((0, ()),) * 2, end), (2, ((0, ()),), ("back", 0))))
        for target in [
            (1, ()),
            (1, (0,)),
            (1, (0, 0, 0)),
            (1, (0, 2)),
            (1, (2, 0)),
            (1, (0, -1)),
            (1, (0, True)),
            (1, [0, 0]),
            (0, (0, 0)),
            (2, (0, 0)),
            (2, ()),
            (-1, (0, 0)),
            (True, (0, 0)),
            (False, ()),
            (1, 0, 0),
            (1, (0, 0), 0),
            [1, (0, 0)],
            *[(1, odd) for odd in ODD if odd != (0, 0)],
            *[(odd, ()) for odd in strange_objects()],
        ]:
            for end in [("go", target), ("if", 0, target, (0, ())), ("if", 0, (0, ()), target)]:
                blocks = ((0, ((0, ()),) * 2, end), (2, ((0, ()),), ("back", 0)))
                self.bad(("block", 0), blocks=blocks)
                self.bad(("block", 1), blocks=((0, ((0, ()),), ("back", 0)), (0, ((0, ()),) * 2, ("go", (0, (0,))))))

    def test_targets_at_what_is_no_triple(self):
        # No target is right there, so the block that goes there is the first that is none.
        for odd in [None, (), (2,), (2, ()), (2, (), (), ()), [2, (), ()], (5, (), ()), (True, (), ()), ("2", (), ())]:
            self.bad(("block", 0), blocks=((0, ((0, ()),), ("go", (1, (0, 0)))), odd))
            self.bad(("block", 1), blocks=((0, ((0, ()),), ("back", 0)), odd))
        # A triple with a right number of places can be gone to, whatever else is wrong with it.
        for odd in [(2, None, None), (2, (), ("back", 0)), (2, ((9, ()),), ("back", 0))]:
            self.bad(("block", 1), blocks=((0, ((0, ()),), ("go", (1, (0, 0)))), odd))

    def test_deep_objects(self):
        deep = nested(lambda inner: (inner,), 36)
        for blocks in [((0, ((0, ()),), deep),), ((0, (deep,), ("back", 0)),), (deep,), ((deep, (), ("back", 0)),)]:
            self.bad(("block", 0), blocks=blocks)

    def test_it_keeps_what_it_was_made_of(self):
        told = copy.deepcopy(TIMES_BLOCKS)
        made = program()
        plain(made, (3, 4), 100)
        self.assertEqual(made.blocks, told)


class PlainTest(unittest.TestCase):
    def test_meanings_at_their_edges(self):
        for meaning, first, second, told in [
            ("sum", 65535, 1, 0),
            ("sum", 65535, 65535, 65534),
            ("sum", 2, 3, 5),
            ("minus", 0, 1, 65535),
            ("minus", 7, 7, 0),
            ("minus", 0, 65535, 1),
            ("times", 65535, 65535, 1),
            ("times", 256, 256, 0),
            ("times", 3, 5, 15),
            ("less", 1, 2, 1),
            ("less", 2, 1, 0),
            ("less", 2, 2, 0),
            ("less", 0, 65535, 1),
            ("not", 0, 0, 65535),
            ("not", 65535, 0, 0),
            ("not", 1, 0, 65534),
            ("half", 7, 0, 3),
            ("half", 65535, 0, 32767),
            ("half", 1, 0, 0),
            ("half", 8, 0, 4),
        ]:
            self.assertEqual(plain(worked(meaning, 0, 1), (first, second), 1), (told, 1))

    def test_nums_and_places(self):
        self.assertEqual(plain(SEVEN, (), 5), (7, 1))
        book = Book((0, 0, 0, 0, 0), 1, (), ())
        meanings = (("place", 3), ("place", 2), ("place", 1), ("place", 0), ("num", 65535))
        values = tuple((op, ()) for op in range(5))
        for value, told in [(0, 9), (1, 8), (2, 7), (3, 6), (4, 65535)]:
            made = Program(book, meanings, 0, 0, ((4, values, ("back", value)),))
            self.assertEqual(plain(made, (6, 7, 8, 9), 1), (told, 1))

    def test_blocks_that_go_round(self):
        for first, second in [(3, 4), (0, 5), (5, 0), (40000, 3), (65535, 2)]:
            told = (first * second % 65536, 2 * second + 3)
            self.assertEqual(plain(TIMES, (first, second), 1000), told)

    def test_most(self):
        self.assertEqual(plain(TIMES, (3, 4), 11), (12, 11))
        self.assertEqual(plain(TIMES, (3, 4), 10), (None, 10))
        self.assertEqual(plain(TIMES, (3, 4), 1), (None, 1))
        self.assertEqual(plain(TIMES, (3, 4), 0), (None, 0))
        self.assertEqual(plain(SEVEN, (), 0), (None, 0))
        endless = Program(SEVEN.book, SEVEN.meanings, 0, 0, ((0, ((0, ()),), ("go", (0, ()))),))
        self.assertEqual(plain(endless, (), 10000), (None, 10000))
        self.assertEqual(plain(TIMES, (1, 4999), 10000), (None, 10000))

    def test_if(self):
        block = (1, ((0, ()),), ("if", 0, (1, ()), (2, ())))
        rest = ((0, ((1, ()),), ("back", 0)), (0, ((2, ()),), ("back", 0)))
        meanings = (("place", 0), ("num", 5), ("num", 6))
        made = Program(Book((0, 0, 0), 1, (), ()), meanings, 0, 0, (block,) + rest)
        for word, told in [(0, 6), (1, 5), (65535, 5)]:
            self.assertEqual(plain(made, (word,), 9), (told, 2))

    def test_things_that_are_not_makeable(self):
        self.assertEqual(plain(Program(Book((0,), 1, (), ()), (("num", 3),), 0, 0, SEVEN.blocks), (), 1), (3, 1))

    def test_no_inputs(self):
        for odd in [(), (1,), (1, 2, 3), [1, 2], (1, 65536), (-1, 0), (1, True), (False, 0), (0, "0"), None, *ODD]:
            if odd != (0, 0):
                for most in [10, -1, None]:
                    with self.assertRaises(NoInputs):
                        plain(TIMES, odd, most)
        for odd in [(0,), [], None, 0]:
            with self.assertRaises(NoInputs):
                plain(SEVEN, odd, 1)
        for odd in strange_objects():
            for inputs in [(0, odd), (odd, 0)]:
                with self.assertRaises(NoInputs):
                    plain(TIMES, inputs, 1)

    def test_no_number(self):
        for odd in [-1, 10001, True, False, "1", None, (1,), 10**39, *ODD]:
            with self.assertRaises(NoNumber):
                plain(TIMES, (65535, 0), odd)

    def test_against_the_words(self):
        over = {True: 0, False: 0}
        for seed in range(300):
            made = random_program(seed)
            for inputs in [random_inputs(seed, made), random_inputs(seed + 1, made)]:
                answer, done = told_run(made, inputs, 30)
                self.assertEqual(plain(made, inputs, 30), (answer, len(done)))
                over[answer is None] += 1
        self.assertGreater(min(over.values()), 100)


class WebTest(unittest.TestCase):
    def test_webs(self):
        for number, (_, values, _) in enumerate(TIMES_BLOCKS):
            self.assertEqual(web_of(TIMES, number), Web(values))

    def test_wishes(self):
        self.assertEqual(wishes_of(TIMES, 0), ((0, 0), (1, 0), (2, 0)))
        self.assertEqual(wishes_of(TIMES, 1), ((0, 0), (1, 0), (1, 1), (2, 0)))
        self.assertEqual(wishes_of(TIMES, 2), ((0, 0), (4, 0), (5, 0)))
        self.assertEqual(wishes_of(TIMES, 3), ((0, 0),))

    def test_what_is_wished_twice_is_wished_once(self):
        values = ((0, ()),) * 4
        end = ("if", 2, (0, (3, 3, 2)), (0, (3, 1, 3)))
        for hand, test, told in [
            (0, 0, ((1, 0), (2, 0), (3, 0))),
            (1, 1, ((1, 1), (2, 1), (3, 1))),
            (0, 1, ((1, 0), (2, 0), (2, 1), (3, 0))),
            (1, 0, ((1, 1), (2, 0), (2, 1), (3, 1))),
        ]:
            self.assertEqual(wishes_of(program(hand=hand, test=test, blocks=((3, values, end),)), 0), told)

    def test_what_is_tested_alone(self):
        blocks = ((0, ((0, ()),), ("if", 0, (0, ()), (0, ()))),)
        self.assertEqual(wishes_of(program(blocks=blocks), 0), ((0, 1),))
        self.assertEqual(wishes_of(program(blocks=((0, ((0, ()),), ("go", (0, ()))),)), 0), ())

    def test_no_block(self):
        for odd in [-1, 4, True, False, "0", None, (0,), *ODD]:
            for function in [web_of, wishes_of]:
                with self.assertRaises(NoBlock):
                    function(TIMES, odd)


if __name__ == "__main__":
    unittest.main()
