import random
import unittest

from lookdown.alone import own
from lookdown.books import Book
from lookdown.choices import plan_by
from lookdown.codes import cells_of, ran
from lookdown.errors import (
    BadProgram,
    LookError,
    NoBlock,
    NoCode,
    NoInputs,
    NoNumber,
    NoText,
    NothingDone,
    NotRunning,
    NoWay,
)
from lookdown.programs import Program, plain, web_of, wishes_of
from lookdown.workshop import Workshop, relived
from tests.programs import SEVEN, TIMES, TIMES_BLOCKS, own_choices, random_block, random_inputs, random_program
from tests.samples import strange_objects, strange_tuples
from tests.test_bench import NO_WAYS
from tests.test_codes import SUM_MEANINGS, SUMS, told_code
from tests.test_judging import way_price
from tests.test_programs import word_of

ODD = strange_objects() + strange_tuples()
NO_BLOCKS = [-1, 4, True, False, "0", None, (0,), *ODD]
# Nothing gives a value of op 2, so block 1 cannot be made; block 2 can.
LACKING = Program(
    Book((0, 2, 0, 0), 1, ((0, (), 0, 1), (1, (0, 0), 0, 1), (3, (), 0, 1)), ()),
    (("place", 0), ("sum",), ("num", 9), ("num", 4)),
    0,
    0,
    (
        (1, ((0, ()),), ("if", 0, (1, ()), (2, (0,)))),
        (0, ((2, ()),), ("back", 0)),
        (1, ((0, ()), (1, (0, 0))), ("back", 1)),
    ),
)
ROW = ("row", ("rule", 0))


def state(shop):
    """All that undo puts back, as far as it is told."""
    return (shop.stand(), shop.paid(), shop.program_now())


def everything(shop):
    return (state(shop), shop.worked(), shop.journal())


def started(program, inputs, many=0):
    """A workshop behind so many steps of a run."""
    shop = Workshop(program)
    shop.start(inputs)
    shop.go(many)
    return shop


def do_random(dice, shop):
    """Does a random deed, perhaps one that cannot be done; tells its name and what it told."""
    program = shop.program_now()
    name = dice.choice("start step step step step step go go turn reprice reprice undo undo copy".split())
    if name == "start":
        return (name, shop.start(random_inputs(dice.random(), program)))
    if name == "go":
        return (name, shop.go(dice.choice((0, 1, 2, 5, 9))))
    if name == "turn":
        number = dice.randrange(len(program.blocks))
        places = [block[0] for block in program.blocks]
        _, values, end = random_block(dice, program.book, program.meanings, places, places[number])
        return (name, shop.turn(number, values, end))
    if name == "reprice":
        way = (dice.choice(("rule", "rule", "move")), dice.randrange(9))
        return (name, shop.reprice(way, dice.randint(1, 9)))
    return (name, {"step": shop.step, "undo": shop.undo, "copy": shop.copy}[name]())


class Model:
    """What a workshop does, told by whole states of which each deed makes another one."""

    def __init__(self, program):
        self.now = {"program": program, "codes": {}, "run": None, "paid": 0}
        self.past = []
        self.worked = 0

    def done(self, **told):
        self.past.append(self.now)
        self.now = {**self.now, **told}

    def entered(self, block, handed):
        """The codes and the run behind coming to a block."""
        program, codes = self.now["program"], self.now["codes"]
        if block not in codes:
            web, wishes = web_of(program, block), wishes_of(program, block)
            choice = own(program.book, web)
            if not all(wish in choice for wish in wishes):
                raise NoCode(block)
            rows = told_code(program, block, choice)
            plan = plan_by(program.book, web, choice, wishes)
            codes = {**codes, block: (rows, {making[:2]: row[2] for making, row in zip(plan, rows)})}
            self.worked += 1
        rows, places = codes[block]
        words = (None,) * cells_of((rows,))
        return {"codes": codes, "run": (block, 0, words, rows, places, program.blocks[block][2], handed)}

    def start(self, inputs):
        self.done(paid=0, **self.entered(0, inputs))

    def step(self):
        program = self.now["program"]
        block, done, words, rows, places, end, handed = self.now["run"]
        if done < len(rows):
            way, cells, cell = rows[done]
            told = [words[each] for each in cells]
            if way[0] == "move":
                word = told[0]
            else:
                word = word_of(program.meanings[program.book.rules[way[1]][0]], told, handed)
            words = words[:cell] + (word,) + words[cell + 1:]
            paid = self.now["paid"] + way_price(program.book, way)
            self.done(run=(block, done + 1, words, rows, places, end, handed), paid=paid)
            return ("row", way)
        if end[0] == "back":
            self.done(run=("over", words[places[(end[1], program.hand)]]))
            return self.now["run"]
        target = end[1] if end[0] == "go" else end[2 if words[places[(end[1], program.test)]] else 3]
        handed = tuple(words[places[(value, program.hand)]] for value in target[1])
        self.done(**self.entered(target[0], handed))
        return ("block", target[0])

    def turn(self, number, values, end):
        program = self.now["program"]
        block = (program.blocks[number][0], values, end)
        blocks = program.blocks[:number] + (block,) + program.blocks[number + 1:]
        turned = Program(program.book, program.meanings, program.hand, program.test, blocks)
        self.done(program=turned, codes={at: code for at, code in self.now["codes"].items() if at != number})

    def reprice(self, way, price):
        program = self.now["program"]
        word, k = way
        lists = {"rule": list(program.book.rules), "move": list(program.book.moves)}
        lists[word][k] = lists[word][k][:-1] + (price,)
        book = Book(program.book.arities, program.book.kinds, tuple(lists["rule"]), tuple(lists["move"]))
        kept = {}
        for at, code in self.now["codes"].items():
            if word == "rule" and book.rules[k][0] not in [op for op, _ in program.blocks[at][1]]:
                kept[at] = code
        told = Program(book, program.meanings, program.hand, program.test, program.blocks)
        self.done(program=told, codes=kept)

    def undo(self):
        self.now = self.past.pop()

    def state(self):
        run = self.now["run"]
        return (run if run is None or run[0] == "over" else run[:3], self.now["paid"], self.now["program"])


class StartTest(unittest.TestCase):
    def test_at_first(self):
        shop = Workshop(TIMES)
        self.assertEqual(everything(shop), ((None, 0, TIMES), 0, ""))
        for call in [shop.step, lambda: shop.go(5), lambda: shop.go(0), lambda: shop.go(None)]:
            with self.assertRaises(NotRunning):
                call()
        with self.assertRaises(NothingDone):
            shop.undo()
        self.assertEqual(everything(shop), ((None, 0, TIMES), 0, ""))

    def test_start(self):
        shop = Workshop(TIMES)
        self.assertIsNone(shop.start((7, 2)))
        self.assertEqual(everything(shop), (((0, 0, (None,) * 3), 0, TIMES), 1, "start 7 2\n"))

    def test_amid_a_run(self):
        shop = started(TIMES, (7, 2), 8)
        self.assertEqual(shop.stand()[:2], (1, 4))
        self.assertGreater(shop.paid(), 0)
        shop.start((1, 1))
        self.assertEqual((shop.stand(), shop.paid(), shop.worked()), ((0, 0, (None,) * 3), 0, 2))
        self.assertEqual(shop.go(2000)[-1], ("over", 1))
        shop.start((2, 1))
        self.assertEqual((shop.stand(), shop.paid(), shop.worked()), ((0, 0, (None,) * 3), 0, 4))
        self.assertEqual(shop.go(2000)[-1], ("over", 2))

    def test_no_inputs(self):
        for shop in [Workshop(TIMES), started(TIMES, (7, 2), 9)]:
            told = everything(shop)
            for odd in [(), (1,), (1, 2, 3), [1, 2], (1, 65536), (-1, 0), (1, True), None, *ODD]:
                if odd != (0, 0):
                    with self.assertRaises(NoInputs):
                        shop.start(odd)
            self.assertEqual(everything(shop), told)

    def test_no_code(self):
        made = Program(SUMS, SUM_MEANINGS, 0, 0, ((0, ((2, ()),), ("back", 0)),))
        shop = Workshop(made)
        for inputs, error in [((), NoCode), ((0,), NoInputs), (None, NoInputs)]:
            with self.assertRaises(error) as caught:
                shop.start(inputs)
            self.assertEqual(getattr(caught.exception, "block", 0), 0)
        self.assertEqual(everything(shop), ((None, 0, made), 0, ""))
        shop.turn(0, ((0, ()),), ("back", 0))
        shop.start(())
        shop.turn(0, ((2, ()),), ("back", 0))
        told = everything(shop)
        with self.assertRaises(NoCode):
            shop.start(())
        self.assertEqual(everything(shop), told)
        self.assertEqual(shop.go(5), [("row", ("rule", 0)), ("over", 3)])


class StepTest(unittest.TestCase):
    def test_by_hand(self):
        shop = started(TIMES, (7, 1))
        for told, stand, paid in [
            (("row", ("rule", 2)), (0, 1, (7, None, None)), 2),
            (("row", ("rule", 3)), (0, 2, (7, 1, None)), 4),
            (("row", ("rule", 0)), (0, 3, (7, 1, 0)), 5),
            (("block", 1), (1, 0, (None,) * 4), 5),
            (("row", ("rule", 2)), (1, 1, (7, None, None, None)), 7),
            (("row", ("rule", 3)), (1, 2, (7, 1, None, None)), 9),
            (("row", ("move", 0)), (1, 3, (7, 1, 1, None)), 10),
            (("row", ("rule", 4)), (1, 4, (7, 1, 1, 0)), 12),
            (("block", 2), (2, 0, (None,) * 5), 12),
            (("row", ("rule", 2)), (2, 1, (7, None, None, None, None)), 14),
            (("row", ("rule", 3)), (2, 2, (7, 1, None, None, None)), 16),
            (("row", ("rule", 4)), (2, 3, (7, 1, 0, None, None)), 18),
            (("row", ("move", 0)), (2, 4, (7, 1, 0, 0, None)), 19),
            (("row", ("rule", 1)), (2, 5, (7, 1, 1, 0, None)), 20),
            (("row", ("rule", 7)), (2, 6, (7, 1, 1, 0, 7)), 21),
            (("row", ("rule", 6)), (2, 7, (7, 1, 1, 0, 7)), 24),
            (("block", 1), (1, 0, (None,) * 4), 24),
            (("row", ("rule", 2)), (1, 1, (7, None, None, None)), 26),
            (("row", ("rule", 3)), (1, 2, (7, 0, None, None)), 28),
            (("row", ("move", 0)), (1, 3, (7, 0, 0, None)), 29),
            (("row", ("rule", 4)), (1, 4, (7, 0, 0, 7)), 31),
            (("block", 3), (3, 0, (None,)), 31),
            (("row", ("rule", 2)), (3, 1, (7,)), 33),
            (("over", 7), ("over", 7), 33),
        ]:
            self.assertEqual(shop.step(), told)
            self.assertEqual((shop.stand(), shop.paid()), (stand, paid))
        self.assertEqual(shop.worked(), 4)

    def test_behind_the_end(self):
        shop = started(SEVEN, (), 5)
        told = everything(shop)
        self.assertEqual(told[0][:2], (("over", 7), 1))
        for call in [shop.step, lambda: shop.go(5), lambda: shop.go(0), lambda: shop.go(-1)]:
            with self.assertRaises(NotRunning):
                call()
        self.assertEqual(everything(shop), told)

    def test_a_word_of_nothing(self):
        made = Program(SEVEN.book, (("num", 0),), 0, 0, SEVEN.blocks)
        shop = started(made, (), 5)
        self.assertEqual(shop.stand(), ("over", 0))

    def test_no_code_of_the_block_gone_to(self):
        shop = started(LACKING, (5,), 1)
        told = everything(shop)
        for call in [shop.step, lambda: shop.go(3), lambda: shop.go(1)]:
            with self.assertRaises(NoCode) as caught:
                call()
            self.assertEqual(caught.exception.block, 1)
            self.assertEqual(everything(shop), told)
        self.assertEqual(shop.go(0), [])
        # The other block is gone to all the same; none that is not come to is made.
        shop = started(LACKING, (0,), 1)
        self.assertEqual(shop.go(9), [("block", 2), ROW, ("row", ("rule", 1)), ("over", 0)])
        self.assertEqual(shop.worked(), 2)

    def test_what_go_does_ahead_of_no_code_stays_done(self):
        shop = started(LACKING, (5,))
        with self.assertRaises(NoCode):
            shop.go(9)
        self.assertEqual((shop.stand(), shop.paid(), shop.journal()), ((0, 1, (5,)), 1, "start 5\nstep\n"))
        # Behind a turn of the block it can be gone to.
        shop.turn(1, ((3, ()),), ("back", 0))
        self.assertEqual(shop.go(9), [("block", 1), ("row", ("rule", 2)), ("over", 4)])
        for _ in range(4):
            shop.undo()
        self.assertEqual((shop.stand(), shop.program_now()), ((0, 1, (5,)), LACKING))
        with self.assertRaises(NoCode):
            shop.step()


class GoTest(unittest.TestCase):
    def test_so_many_steps(self):
        for many in [0, 1, 2, 5, 23, 24, 25, 2000]:
            shop, other = started(TIMES, (7, 1)), started(TIMES, (7, 1))
            told = shop.go(many)
            self.assertEqual(told, [other.step() for _ in range(min(many, 24))])
            self.assertEqual(everything(shop), everything(other))
            self.assertEqual(shop.journal(), "start 7 1\n" + "step\n" * min(many, 24))

    def test_2000_steps(self):
        shop = started(TIMES, (1, 1000))
        self.assertEqual(len(shop.go(2000)), 2000)
        for _ in range(2000):
            shop.undo()
        self.assertEqual(state(shop), state(started(TIMES, (1, 1000))))

    def test_no_number(self):
        shop = started(TIMES, (7, 1), 3)
        told = everything(shop)
        for odd in [-1, 2001, True, False, "1", None, (1,), *ODD]:
            with self.assertRaises(NoNumber):
                shop.go(odd)
        self.assertEqual(everything(shop), told)

    def test_a_new_list(self):
        shop = started(TIMES, (7, 1))
        shop.go(3).clear()
        self.assertEqual(shop.stand()[1], 3)


class TurnTest(unittest.TestCase):
    def test_the_block_that_is_gone_through(self):
        shop = started(TIMES, (7, 2), 10)
        self.assertEqual(shop.stand()[0], 2)
        before = shop.stand()
        # The loop takes two off from now on; this visit still takes one, and goes where it went.
        values = TIMES_BLOCKS[2][1] + ((6, (5, 3)),)
        self.assertIsNone(shop.turn(2, values, ("go", (1, (0, 6, 4)))))
        self.assertEqual(shop.stand(), before)
        self.assertEqual(shop.program_now().blocks[2], (3, values, ("go", (1, (0, 6, 4)))))
        self.assertEqual(shop.program_now().blocks[:2], TIMES_BLOCKS[:2])
        told = shop.go(11)
        ways = [("rule", 3), ("rule", 4), ("move", 0), ("rule", 1), ("rule", 7), ("rule", 6)]
        self.assertEqual(told[:7], [("row", way) for way in ways] + [("block", 1)])
        self.assertEqual(shop.stand(), (1, 4, (7, 1, 1, 7)))
        self.assertEqual(shop.worked(), 3)
        # One less two is a great word.
        self.assertEqual(shop.step(), ("block", 2))
        self.assertEqual(shop.worked(), 4)
        shop.go(8)
        self.assertEqual(shop.step(), ("block", 1))
        shop.go(4)
        self.assertEqual(shop.stand(), (1, 4, (7, 65535, 65535, 14)))

    def test_another_block(self):
        shop = started(TIMES, (7, 1), 10)
        shop.turn(3, ((2, ()), (5, (0, 0))), ("back", 1))
        self.assertEqual(shop.go(2000)[-1], ("over", 14))
        self.assertEqual(shop.worked(), 4)

    def test_the_same_values(self):
        shop = started(TIMES, (7, 2), 10)
        program = shop.program_now()
        shop.turn(1, *TIMES_BLOCKS[1][1:])
        self.assertEqual(shop.program_now(), program)
        # The code of block 1 was let go of all the same; those of others are kept.
        self.assertEqual(shop.worked(), 3)
        shop.go(7)
        self.assertEqual((shop.stand()[:2], shop.worked()), ((1, 0), 4))
        shop.go(5)
        self.assertEqual((shop.stand()[:2], shop.worked()), ((2, 0), 4))
        shop.go(8)
        self.assertEqual((shop.stand()[:2], shop.worked()), ((1, 0), 4))

    def test_without_a_run_and_behind_its_end(self):
        shop = Workshop(SEVEN)
        shop.turn(0, ((0, ()), (0, ())), ("back", 1))
        self.assertEqual((shop.stand(), shop.paid(), shop.worked()), (None, 0, 0))
        shop.start(())
        shop.go(9)
        shop.turn(0, ((0, ()),), ("go", (0, ())))
        self.assertEqual((shop.stand(), shop.paid()), (("over", 7), 1))
        shop.start(())
        self.assertEqual((shop.go(3), shop.worked()), ([("block", 0)] * 3, 2))

    def test_no_block(self):
        shop = started(TIMES, (7, 2), 10)
        told = everything(shop)
        for odd in NO_BLOCKS:
            for values, end in [(((0, ()),), ("back", 0)), (None, None)]:
                with self.assertRaises(NoBlock):
                    shop.turn(odd, values, end)
        self.assertEqual(everything(shop), told)

    def test_a_block_that_is_none_then(self):
        shop = started(TIMES, (7, 2), 10)
        told = everything(shop)
        for number, values, end in [
            (0, ((0, ()),), ("back", 1)),
            (1, ((0, (0,)),), ("back", 0)),
            (2, (), ("back", 0)),
            (3, ((3, ()),), ("back", 0)),
            (3, ((0, ()),), ("go", (0, (0,)))),
            (3, ((0, ()),) * 201, ("back", 0)),
            (3, [(0, ())], ("back", 0)),
            (3, ((0, ()),), ["back", 0]),
            *[(2, odd, ("back", 0)) for odd in ODD],
            *[(1, ((0, ()),), odd) for odd in ODD],
        ]:
            with self.assertRaises(BadProgram) as caught:
                shop.turn(number, values, end)
            self.assertEqual(caught.exception.part, ("block", number))
        self.assertEqual(everything(shop), told)


class RepriceTest(unittest.TestCase):
    def test_a_rule_of_whose_op_a_block_has_a_value(self):
        shop = started(TIMES, (7, 2), 17)
        self.assertEqual((shop.stand()[:2], shop.worked()), ((1, 0), 3))
        # Op 5 is in block 2 alone: the sum by kind 1 is too dear now.
        self.assertIsNone(shop.reprice(("rule", 7), 9))
        self.assertEqual(shop.program_now().book.rules[7], (5, (0, 1), 0, 9))
        shop.go(4)
        self.assertEqual((shop.step(), shop.worked()), (("block", 2), 4))
        told = shop.go(7)
        self.assertIn(("row", ("rule", 5)), told)
        self.assertNotIn(("row", ("rule", 7)), told)
        self.assertEqual(shop.worked(), 4)
        self.assertEqual((told[-1], len(told)), (("block", 1), 7))
        # Block 1 has no value of op 5, so its code was kept.
        self.assertEqual((shop.go(4)[-1], shop.worked()), (("row", ("rule", 4)), 4))

    def test_a_rule_of_whose_op_no_block_has_a_value(self):
        book = Book((0, 0), 1, SEVEN.book.rules + ((1, (), 0, 5),), ())
        shop = started(Program(book, SEVEN.meanings + (("num", 1),), 0, 0, SEVEN.blocks), ())
        shop.reprice(("rule", 1), 9)
        shop.start(())
        self.assertEqual(shop.worked(), 1)
        shop.reprice(("rule", 0), 1)
        shop.start(())
        self.assertEqual(shop.worked(), 2)

    def test_a_move(self):
        blocks = ((0, (), ("go", (1, ()))), (0, ((0, ()),), ("go", (0, ()))))
        made = Program(Book((0,), 2, ((0, (), 0, 1),), ((0, 1, 1),)), (("num", 1),), 0, 0, blocks)
        shop = started(made, (), 6)
        self.assertEqual(shop.worked(), 2)
        # Also blocks without values let go of their code, and also for the price that it has.
        shop.reprice(("move", 0), 1)
        shop.go(6)
        self.assertEqual(shop.worked(), 4)

    def test_rows_pay_what_they_cost_when_they_are_done(self):
        shop = started(TIMES, (7, 2), 1)
        self.assertEqual(shop.paid(), 2)
        shop.reprice(("rule", 3), 100)
        self.assertEqual(shop.paid(), 2)
        shop.step()
        self.assertEqual(shop.paid(), 102)
        shop.reprice(("rule", 3), 5)
        shop.step()
        self.assertEqual(shop.paid(), 103)
        shop.undo()
        shop.undo()
        self.assertEqual(shop.paid(), 102)

    def test_no_way_and_no_number(self):
        shop = started(SEVEN, ())
        told = everything(shop)
        for odd in [*[odd for odd in NO_WAYS if odd != ("rule", 0)], ("rule", 1)]:
            for price in [5, 0, None]:
                with self.assertRaises(NoWay):
                    shop.reprice(odd, price)
        for odd in [0, 1001, -1, True, "1", None, *ODD]:
            with self.assertRaises(NoNumber):
                shop.reprice(("rule", 0), odd)
        self.assertEqual(everything(shop), told)


class UndoTest(unittest.TestCase):
    def test_each_deed(self):
        shop = Workshop(TIMES)
        before = [state(shop)]
        for deed in [
            lambda: shop.start((7, 2)),
            shop.step,
            lambda: shop.turn(0, ((0, ()),), ("back", 0)),
            shop.step,
            lambda: shop.reprice(("move", 0), 9),
            shop.step,
            shop.step,
            lambda: shop.start((1, 1)),
            shop.step,
            shop.step,
        ]:
            deed()
            before.append(state(shop))
        self.assertEqual(shop.stand(), ("over", 0))
        many = shop.worked()
        for told in before[-2::-1]:
            shop.undo()
            self.assertEqual(state(shop), told)
        self.assertEqual(shop.worked(), many)
        told = everything(shop)
        with self.assertRaises(NothingDone):
            shop.undo()
        self.assertEqual(everything(shop), told)

    def test_go_step_by_step(self):
        shop = started(TIMES, (7, 2))
        shop.go(5)
        for many in range(4, -1, -1):
            shop.undo()
            self.assertEqual(state(shop), state(started(TIMES, (7, 2), many)))
        self.assertEqual(shop.journal(), "start 7 2\n" + "step\n" * 5 + "undo\n" * 5)

    def test_codes_are_taken_back_and_worked_is_not(self):
        shop = started(SEVEN, ())
        shop.undo()
        self.assertEqual((shop.stand(), shop.worked()), (None, 1))
        shop.start(())
        self.assertEqual(shop.worked(), 2)
        # A code that was let go of is there again behind an undo.
        shop.turn(0, *SEVEN.blocks[0][1:])
        shop.undo()
        shop.start(())
        self.assertEqual(shop.worked(), 2)
        shop.reprice(("rule", 0), 5)
        shop.undo()
        shop.start(())
        self.assertEqual(shop.worked(), 2)

    def test_what_was_taken_back_is_not_taken_back_again(self):
        shop = started(SEVEN, ())
        shop.step()
        shop.undo()
        shop.reprice(("rule", 0), 5)
        shop.undo()
        shop.undo()
        self.assertEqual(state(shop), (None, 0, SEVEN))
        with self.assertRaises(NothingDone):
            shop.undo()


class CopyTest(unittest.TestCase):
    def test_they_go_on_apart(self):
        shop = started(TIMES, (7, 2), 9)
        shop.reprice(("rule", 0), 9)
        told = everything(shop)
        other = shop.copy()
        self.assertIsInstance(other, Workshop)
        self.assertEqual(everything(other), told)
        other.go(5)
        other.turn(1, ((0, ()),), ("back", 0))
        other.start((1, 1))
        self.assertEqual(everything(shop), told)
        for _ in range(8):
            other.undo()
        self.assertEqual(state(other), state(started(TIMES, (7, 2), 9)))
        self.assertEqual(everything(shop), told)
        again = shop.copy()
        shop.undo()
        self.assertEqual(everything(again), told)
        self.assertEqual(again.go(2000)[-1], ("over", 14))

    def test_codes_are_copied(self):
        shop = started(SEVEN, ())
        other = shop.copy()
        other.start(())
        self.assertEqual((shop.worked(), other.worked()), (1, 1))
        shop.turn(0, *SEVEN.blocks[0][1:])
        shop.start(())
        other.start(())
        self.assertEqual((shop.worked(), other.worked()), (2, 1))

    def test_equal_to_nothing_of_another_class(self):
        shop = Workshop(SEVEN)
        for other in [SEVEN, SEVEN.book, None, 0, ()]:
            self.assertFalse(shop == other)
            self.assertFalse(other == shop)


class WalkTest(unittest.TestCase):
    def test_the_eighth_fact(self):
        over = 0
        for seed in range(200):
            made = random_program(seed)
            inputs = random_inputs(seed, made)
            try:
                told = ran(made, own_choices(made), inputs, 20)
            except NoCode:
                continue
            self.assertEqual(told[:2], plain(made, inputs, 20))
            shop = started(made, inputs)
            done = 0
            while done < told[1]:
                done += shop.step()[0] != "row"
            if told[0] is None:
                self.assertEqual(shop.stand()[1], 0)
            else:
                self.assertEqual(shop.stand(), ("over", told[0]))
            self.assertEqual(shop.paid(), told[2])
            over += told[0] is not None
        self.assertGreater(over, 50)

    def same(self, shop, model):
        self.assertEqual((state(shop), shop.worked()), (model.state(), model.worked))

    def test_against_a_model(self):
        done = {}
        for seed in range(80):
            dice = random.Random(seed)
            made = random_program(seed)
            shop, model = Workshop(made), Model(made)
            for _ in range(60):
                told = everything(shop)
                error = None
                try:
                    name, result = do_random(dice, shop)
                except LookError as caught:
                    error = caught
                lines = shop.journal()[len(told[2]):].split("\n")[:-1]
                for line in lines:
                    done[line.split(" ")[0]] = done.get(line.split(" ")[0], 0) + 1
                    self.do_line(shop, model, line)
                if error is not None and not lines:
                    self.assertEqual(everything(shop), told)
                if isinstance(error, NoCode):
                    self.no_code(model, error.block)
                self.same(shop, model)
                if error is None and name == "copy":
                    self.assertEqual(everything(result), everything(shop))
                    shop = result
        self.assertEqual(sorted(done), ["move", "rule", "start", "step", "turn", "undo"])
        self.assertGreater(min(done.values()), 30)

    def do_line(self, shop, model, line):
        """Does on the model what a line of the journal tells; turned blocks are read off the workshop."""
        words = line.split(" ")
        if words[0] == "start":
            model.start(tuple(int(word) for word in words[1:]))
        elif words[0] == "step":
            model.step()
        elif words[0] == "turn":
            model.turn(int(words[1]), *shop.program_now().blocks[int(words[1])][1:])
        elif words[0] == "undo":
            model.undo()
        else:
            model.reprice((words[0], int(words[1])), int(words[2]))

    def no_code(self, model, block):
        """The model cannot come to the block either: by a step, or by a start."""
        before = (model.now, len(model.past), model.worked)
        found = []
        for call in [lambda: model.entered(0, (0,) * 4), model.step]:
            try:
                call()
            except NoCode as error:
                found.append(error.block)
            except TypeError:
                # There is no run to step.
                pass
            model.now, model.worked = before[0], before[2]
            del model.past[before[1]:]
        self.assertIn(block, found)


class JournalTest(unittest.TestCase):
    def test_each_kind_of_line(self):
        shop = Workshop(TIMES)
        lines = []
        for deed, more in [
            (lambda: shop.start((7, 65535)), ["start 7 65535"]),
            (shop.step, ["step"]),
            (lambda: shop.go(3), ["step", "step", "step"]),
            (lambda: shop.go(0), []),
            (lambda: shop.turn(0, ((2, ()), (5, (0, 0))), ("back", 1)), ["turn 0 | value 2 | value 5 0 0 | back 1"]),
            (shop.undo, ["undo"]),
            (
                lambda: shop.turn(1, ((2, ()),), ("if", 0, (2, (0, 0, 0)), (3, (0,)))),
                ["turn 1 | value 2 | if 0 2 0 0 0 else 3 0"],
            ),
            (lambda: shop.turn(3, ((2, ()),), ("go", (3, (0,)))), ["turn 3 | value 2 | go 3 0"]),
            (lambda: shop.reprice(("rule", 8), 1000), ["rule 8 1000"]),
            (lambda: shop.reprice(("move", 1), 1), ["move 1 1"]),
            (shop.undo, ["undo"]),
            (shop.undo, ["undo"]),
        ]:
            deed()
            lines.extend(more)
            self.assertEqual(shop.journal(), "".join(line + "\n" for line in lines))
        self.assertEqual(started(SEVEN, ()).journal(), "start\n")

    def test_a_block_without_values(self):
        made = Program(SEVEN.book, SEVEN.meanings, 0, 0, ((0, (), ("go", (0, ()))),))
        shop = started(made, ())
        shop.turn(0, (), ("go", (0, ())))
        self.assertEqual(shop.journal(), "start\nturn 0 | go 0\n")
        self.assertEqual(everything(relived(made, shop.journal())[0]), everything(shop))

    def test_there_and_back(self):
        for seed in range(60):
            dice = random.Random(seed)
            made = random_program(seed)
            shop = Workshop(made)
            for _ in range(40):
                try:
                    do_random(dice, shop)
                except LookError:
                    pass
            other, many = relived(made, shop.journal())
            self.assertEqual(many, len(shop.journal()))
            self.assertEqual(everything(other), everything(shop))
            # They go on alike.
            for _ in range(15):
                again = random.Random(dice.random())
                before = again.getstate()
                for each in [shop, other]:
                    again.setstate(before)
                    try:
                        do_random(again, each)
                    except LookError:
                        pass
                self.assertEqual(everything(other), everything(shop))

    def test_cut_at_each_sign(self):
        shop = started(TIMES, (7, 2), 4)
        shop.turn(1, ((2, ()), (3, ())), ("if", 1, (3, (0,)), (3, (1,))))
        shop.reprice(("rule", 2), 100)
        shop.step()
        shop.undo()
        journal = shop.journal()
        whole = 0
        for cut in range(len(journal) + 1):
            if cut > 0 and journal[cut - 1] == "\n":
                whole = cut
            other, many = relived(TIMES, journal[:cut])
            self.assertEqual((many, other.journal()), (whole, journal[:whole]))

    def stops(self, lines, done, program=TIMES):
        """Just so many of the lines are done."""
        other, many = relived(program, "".join(line + "\n" for line in lines))
        told = "".join(line + "\n" for line in lines[:done])
        self.assertEqual((other.journal(), many), (told, len(told)))

    def test_lines_that_are_not_written_so(self):
        turn = "turn 3 | value 2 | back 0"
        self.stops(["start 7 2", "step", turn, "step"], 4)
        for line in [
            "",
            " ",
            "start  7 2",
            "start 7 02",
            "start 7 2 ",
            " start 7 2",
            "start 7 +2",
            "start 7 0000000002",
            "Start 7 2",
            "start 7 2 | step",
            "step ",
            "step 1",
            " step",
            "go 1",
            "step | step",
            "undo ",
            "undo 1",
            "undo | undo",
            "rule 0",
            "rule 0 01",
            "rule 0 1 1",
            "rule 00 1",
            "rule 0 1 | back 0",
            "move 0",
            "move 0 1 ",
            "rule",
            "turn 3",
            "turn 3 ",
            "turn 3 |",
            "turn 3 | ",
            "turn | back 0",
            "turn 3 3 | value 2 | back 0",
            "turn 03 | value 2 | back 0",
            "turn 3 value 2 back 0",
            "turn 3 value 2 | back 0",
            "turn 3 | value 2 back 0",
            "turn 3| value 2 | back 0",
            "turn 3 |value 2 | back 0",
            "turn 3  | value 2 | back 0",
            "turn 3 |  value 2 | back 0",
            "turn 3 | value 2 |  back 0",
            "turn 3 | value 2 |back 0",
            "turn 3 | | value 2 | back 0",
            "turn 3 |  | value 2 | back 0",
            "turn 3 | value 2 | | back 0",
            "turn 3 | value 2 | back 0 |",
            "turn 3 | value 2 | back 0 | ",
            "turn 3 | value 2 | back 0 ",
            "turn 3 | value 02 | back 0",
            "turn 3 | value 2 | back 00",
            "turn 3 | value 2",
            "turn 3 | back 0 | value 2",
            "turn 3 | value 2 | back 0 | back 0",
            "turn 3 | block 1 | value 2 | back 0",
            "| value 2 | back 0",
            "step 3 | value 2 | back 0",
            "Turn 3 | value 2 | back 0",
        ]:
            self.stops(["start 7 2", "step", line, "step"], 2)

    def test_deeds_that_cannot_be_done(self):
        for line in [
            "start",
            "start 7",
            "start 7 65536",
            "start 7 2 1",
            "rule 9 1",
            "rule 0 0",
            "rule 0 1001",
            "move 2 1",
            "turn 4 | value 2 | back 0",
            "turn 3 | value 2 | back 1",
            "turn 3 | value 9 | back 0",
            "turn 3 | back 0",
            "turn 3 | value 3 | back 0",
            "turn 3 | value 2 | go 3",
            "turn 3 | value 2 | if 0 3 0 else 9",
        ]:
            self.stops(["start 7 2", "step", line, "step"], 2)
        self.stops(["step"], 0)
        self.stops(["undo"], 0)
        self.stops(["start 7 2", "undo", "step"], 2)
        self.stops(["start 7 2", "undo", "undo"], 2)
        self.stops(["start", "step", "step", "step"], 3, SEVEN)
        self.stops(["start 5", "step", "step", "step"], 2, LACKING)
        self.stops(["start 0", "step", "step", "step"], 4, LACKING)
        self.stops(["turn 0 | value 2 | back 0", "start 5"], 1, LACKING)

    def test_the_last_line_without_a_line_feed(self):
        for journal, told in [("start", 0), ("start\nstep", 6), ("", 0), ("\n", 0), ("start\n\n", 6)]:
            self.assertEqual(relived(SEVEN, journal)[1], told)

    def test_no_text(self):
        for odd in [None, 0, b"start\n", ["start"], *[odd for odd in ODD if not isinstance(odd, str)]]:
            with self.assertRaises(NoText):
                relived(SEVEN, odd)


if __name__ == "__main__":
    unittest.main()
