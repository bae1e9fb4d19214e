import copy
import itertools
import unittest

from lookdown.books import Book
from lookdown.choices import cost, plan_by
from lookdown.codes import cells_of, code_of, ran
from lookdown.errors import NoChoices, NoCode, NoInputs, NoNumber
from lookdown.finding import best
from lookdown.programs import Program, plain, web_of, wishes_of
from tests.programs import (
    SEVEN,
    TIMES,
    TIMES_BOOK,
    own_choices,
    random_choices,
    random_inputs,
    random_program,
)
from tests.samples import all_choices, strange_objects, strange_tuples
from tests.test_judging import way_price
from tests.test_programs import told_run

OWN = own_choices(TIMES)
NO_LOTS_OF_CHOICES = [
    (),
    OWN[:3],
    OWN + OWN[:1],
    OWN[:3] + (None,),
    OWN[:3] + ({},),
    (OWN[1],) + OWN[1:],
    (dict(list(OWN[0].items())[:-1]),) + OWN[1:],
    (OWN[0], {**OWN[1], (0, 0): ("rule", 99)}) + OWN[2:],
    list(OWN),
    {number: choice for number, choice in enumerate(OWN)},
    OWN[0],
    *strange_objects(),
    *strange_tuples(),
    *[OWN[:3] + (odd,) for odd in strange_objects()],
]
# Leaves for 1, sums for 1; op 2 tells no kind at all.
SUMS = Book((0, 2, 0), 1, ((0, (), 0, 1), (1, (0, 0), 0, 1)), ())
SUM_MEANINGS = (("num", 3), ("sum",), ("num", 9))


def sums(values, end):
    """The code of a block of sums."""
    made = Program(SUMS, SUM_MEANINGS, 0, 0, ((0, values, end),))
    return code_of(made, own_choices(made))[0]


def told_code(program, block, choice):
    """The rows of a block, by the words of the document."""
    book, web, wishes = program.book, web_of(program, block), wishes_of(program, block)
    plan = plan_by(book, web, choice, wishes)
    needs = []
    for value, _, (word, k) in plan:
        if word == "move":
            needs.append([(value, book.moves[k][0])])
        else:
            needs.append(list(zip(web.rows[value][1], book.rules[k][1])))
    cells, rows = {}, []
    for at, (value, kind, way) in enumerate(plan):
        kept = set(wishes).union(*needs[at:])
        sources = tuple(next(cell for cell, thing in cells.items() if thing == need) for need in needs[at])
        cell = next(cell for cell in itertools.count() if cells.get(cell) not in kept)
        cells[cell] = (value, kind)
        rows.append((way, sources, cell))
    return tuple(rows)


class CodeTest(unittest.TestCase):
    def test_by_hand(self):
        self.assertEqual(code_of(SEVEN, own_choices(SEVEN)), (((("rule", 0), (), 0),),))
        self.assertEqual(
            code_of(TIMES, OWN),
            (
                ((("rule", 2), (), 0), (("rule", 3), (), 1), (("rule", 0), (), 2)),
                ((("rule", 2), (), 0), (("rule", 3), (), 1), (("move", 0), (1,), 2), (("rule", 4), (), 3)),
                (
                    (("rule", 2), (), 0),
                    (("rule", 3), (), 1),
                    (("rule", 4), (), 2),
                    (("move", 0), (2,), 3),
                    (("rule", 1), (), 2),
                    (("rule", 7), (0, 3), 4),
                    (("rule", 6), (1, 2), 3),
                ),
                ((("rule", 2), (), 0),),
            ),
        )

    def test_what_a_row_needs_stays_till_it_is_done(self):
        leaf, rule = ("rule", 0), ("rule", 1)
        values = ((0, ()), (0, ()), (1, (0, 1)), (1, (2, 0)))
        self.assertEqual(
            sums(values, ("back", 3)),
            ((leaf, (), 0), (leaf, (), 1), (rule, (0, 1), 2), (rule, (2, 0), 1)),
        )
        # Value 1 is needed no more behind the first sum, but till then it stays.
        values = ((0, ()), (0, ()), (1, (0, 1)), (0, ()), (0, ()), (1, (2, 3)), (1, (5, 4)))
        self.assertEqual(
            sums(values, ("back", 6)),
            (
                (leaf, (), 0),
                (leaf, (), 1),
                (rule, (0, 1), 2),
                (leaf, (), 0),
                (leaf, (), 1),
                (rule, (2, 0), 3),
                (rule, (3, 1), 0),
            ),
        )

    def test_what_is_wished_stays(self):
        leaf, rule = ("rule", 0), ("rule", 1)
        values = ((0, ()), (0, ()), (1, (0, 1)), (0, ()), (1, (2, 3)))
        rows = ((leaf, (), 0), (leaf, (), 1), (rule, (0, 1), 2), (leaf, (), 0), (rule, (2, 0), 1))
        self.assertEqual(sums(values, ("back", 4)), rows)
        kept = ((leaf, (), 0), (leaf, (), 1), (rule, (0, 1), 2), (leaf, (), 1), (rule, (2, 1), 3))
        self.assertEqual(sums(values, ("if", 4, (0, ()), (0, ())))[-1], rows[-1])
        made = Program(SUMS, SUM_MEANINGS, 0, 0, ((2, values, ("go", (0, (0, 4)))),))
        self.assertEqual(code_of(made, own_choices(made)), (kept,))

    def test_what_is_needed_twice(self):
        leaf, rule = ("rule", 0), ("rule", 1)
        values = ((0, ()), (1, (0, 0)), (1, (1, 1)), (1, (2, 1)))
        told = ((leaf, (), 0), (rule, (0, 0), 1), (rule, (1, 1), 0), (rule, (0, 1), 2))
        self.assertEqual(sums(values, ("back", 3)), told)

    def test_sources_stand_as_the_rule_names_them(self):
        book = Book((0, 2), 2, ((0, (), 0, 1), (1, (1, 0), 0, 1), (1, (0, 0), 1, 1)), ((0, 1, 5),))
        made = Program(book, (("num", 3), ("minus",)), 0, 0, ((0, ((0, ()), (0, ()), (1, (1, 0))), ("back", 2)),))
        told = ((("rule", 0), (), 0), (("rule", 0), (), 1), (("move", 0), (1,), 2), (("rule", 1), (2, 0), 1))
        self.assertEqual(code_of(made, own_choices(made)), (told,))

    def test_moves(self):
        book = Book((0,), 3, ((0, (), 0, 1),), ((0, 1, 1), (1, 2, 1)))
        for hand, told in [
            (0, ((("rule", 0), (), 0),)),
            (1, ((("rule", 0), (), 0), (("move", 0), (0,), 1))),
            (2, ((("rule", 0), (), 0), (("move", 0), (0,), 1), (("move", 1), (1,), 0))),
        ]:
            made = Program(book, (("num", 3),), hand, 0, ((0, ((0, ()),), ("back", 0)),))
            self.assertEqual(code_of(made, own_choices(made)), (told,))
            self.assertEqual(ran(made, own_choices(made), (), 5), (3, 1, len(told)))

    def test_blocks_without_rows(self):
        made = Program(SUMS, SUM_MEANINGS, 0, 0, ((0, (), ("go", (1, ()))), (0, ((0, ()),), ("go", (0, ())))))
        self.assertEqual(code_of(made, own_choices(made)), ((), ()))
        self.assertEqual(cells_of(code_of(made, own_choices(made))), 0)
        self.assertEqual(ran(made, own_choices(made), (), 7), (None, 7, 0))

    def test_against_the_words(self):
        many = 0
        for seed in range(300):
            made = random_program(seed)
            for choices in [own_choices(made), random_choices(seed, made)]:
                try:
                    code = code_of(made, choices)
                except NoCode:
                    continue
                told = tuple(told_code(made, block, choice) for block, choice in enumerate(choices))
                self.assertEqual(code, told)
                many += sum(len(rows) > 5 for rows in code)
        self.assertGreater(many, 100)

    def test_no_choices(self):
        for odd in NO_LOTS_OF_CHOICES:
            with self.assertRaises(NoChoices):
                code_of(TIMES, odd)

    def test_no_code(self):
        lacking = (0, ((2, ()),), ("back", 0))
        right = (0, ((0, ()), (2, ())), ("back", 0))
        for blocks, number in [
            ((lacking,), 0),
            ((right, lacking), 1),
            ((right, right, lacking, lacking), 2),
            ((right, (0, ((0, ()), (2, ())), ("if", 1, (0, ()), (0, ())))), 1),
            ((right, (0, ((0, ()), (2, ())), ("if", 0, (2, (0,)), (2, (1,)))), (1, ((0, ()),), ("back", 0))), 1),
        ]:
            made = Program(SUMS, SUM_MEANINGS, 0, 0, blocks)
            choices = own_choices(made)
            for function, more in [(code_of, ()), (ran, ((), 1)), (ran, (None, None))]:
                with self.assertRaises(NoCode) as caught:
                    function(made, choices, *more)
                self.assertEqual(caught.exception.block, number)
                # What are no choices is told ahead of it.
                for odd in [choices[1:], choices[:-1] + ({(0, 0): None},), None]:
                    with self.assertRaises(NoChoices):
                        function(made, odd, *more)

    def test_what_is_not_wished_need_not_be_makeable(self):
        values = ((2, ()), (0, ()))
        self.assertEqual(sums(values, ("back", 1)), ((("rule", 0), (), 0),))

    def test_the_choices_are_not_changed(self):
        told = copy.deepcopy(OWN)
        code_of(TIMES, OWN)
        ran(TIMES, OWN, (2, 3), 100)
        self.assertEqual(OWN, told)


class CellsTest(unittest.TestCase):
    def test_told_by_hand(self):
        for code, many in [
            ((), 0),
            (((),), 0),
            (((), ()), 0),
            ((((("rule", 0), (), 0),),), 1),
            ((((("rule", 0), (), 6),),), 7),
            ((((("rule", 0), (8, 2), 6),),), 9),
            ((((("move", 0), (4,), 0),), ()), 5),
            ((((("rule", 0), (), 1),), ((("rule", 0), (), 3), (("rule", 0), (0, 1), 2))), 4),
        ]:
            self.assertEqual(cells_of(code), many)

    def test_codes(self):
        self.assertEqual(cells_of(code_of(SEVEN, own_choices(SEVEN))), 1)
        self.assertEqual(cells_of(code_of(TIMES, OWN)), 5)
        self.assertEqual(cells_of(code_of(TIMES, OWN)[:1]), 3)


class RanTest(unittest.TestCase):
    def test_by_hand(self):
        self.assertEqual(ran(SEVEN, own_choices(SEVEN), (), 10), (7, 1, 1))
        # The second block is come to once more than the third one.
        prices = [sum(way_price(TIMES_BOOK, row[0]) for row in rows) for rows in code_of(TIMES, OWN)]
        self.assertEqual(prices, [5, 7, 12, 2])
        self.assertEqual(ran(TIMES, OWN, (7, 2), 100), (14, 7, 5 + 3 * 7 + 2 * 12 + 2))
        self.assertEqual(ran(TIMES, OWN, (7, 2), 6), (None, 6, 5 + 3 * 7 + 2 * 12))
        self.assertEqual(ran(TIMES, OWN, (7, 2), 1), (None, 1, 5))
        self.assertEqual(ran(TIMES, OWN, (7, 2), 0), (None, 0, 0))

    def test_other_choices(self):
        options = [all_choices(TIMES_BOOK, web_of(TIMES, block), 300) for block in range(4)]
        for number, told in enumerate(options):
            for choice in told:
                choices = OWN[:number] + (choice,) + OWN[number + 1:]
                answer, done, paid = ran(TIMES, choices, (7, 2), 100)
                self.assertEqual((answer, done), (14, 7))
                blocks = told_run(TIMES, (7, 2), 100)[1]
                costs = [cost(TIMES_BOOK, web_of(TIMES, block), choices[block], wishes_of(TIMES, block)) for block in blocks]
                self.assertEqual(paid, sum(costs))
        self.assertGreater(sum(len(told) for told in options), 10)

    def test_the_sixth_fact(self):
        many = 0
        for seed in range(300):
            made = random_program(seed)
            inputs = random_inputs(seed, made)
            webs = [web_of(made, block) for block in range(len(made.blocks))]
            bests = tuple(best(made.book, web) for web in webs)
            for choices in [own_choices(made), random_choices(seed, made), random_choices(seed + 1, made), bests]:
                if None in choices:
                    continue
                try:
                    told = ran(made, choices, inputs, 20)
                except NoCode as error:
                    choice = choices[error.block]
                    self.assertFalse(all(wish in choice for wish in wishes_of(made, error.block)))
                    continue
                self.assertEqual(told[:2], plain(made, inputs, 20))
                blocks = told_run(made, inputs, 20)[1]
                costs = [cost(made.book, webs[block], choices[block], wishes_of(made, block)) for block in blocks]
                self.assertEqual(told[2], sum(costs))
                many += told[1] > 3
        self.assertGreater(many, 100)

    def test_errors_in_their_order(self):
        for odd in NO_LOTS_OF_CHOICES:
            for inputs, most in [((7, 2), 10), (None, None)]:
                with self.assertRaises(NoChoices):
                    ran(TIMES, odd, inputs, most)
        for odd in [(), (7,), [7, 2], (7, 65536), (7, True), *strange_objects(), *strange_tuples()]:
            if odd != (0, 0):
                for most in [10, None]:
                    with self.assertRaises(NoInputs):
                        ran(TIMES, OWN, odd, most)
        for odd in [-1, 10001, True, None, *strange_objects()]:
            with self.assertRaises(NoNumber):
                ran(TIMES, OWN, (7, 2), odd)
        lacking = Program(SUMS, SUM_MEANINGS, 0, 0, ((0, ((0, ()),), ("back", 0)), (0, ((2, ()),), ("back", 0))))
        for inputs, most in [((), 1), ((0,), 1), ((), -1), (None, None)]:
            with self.assertRaises(NoCode) as caught:
                ran(lacking, own_choices(lacking), inputs, most)
            self.assertEqual(caught.exception.block, 1)
        self.assertEqual(plain(lacking, (), 1), (3, 1))


if __name__ == "__main__":
    unittest.main()
