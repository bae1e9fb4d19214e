import random
import unittest

from lookdown.alone import own
from lookdown.bench import Bench, replayed
from lookdown.books import Book
from lookdown.choices import cost
from lookdown.errors import LookError, NoText, NothingDone, NoThing, NoNumber, NoValue, NoWay, NoWish, TooMany
from lookdown.judging import undercut
from lookdown.things import makeable
from lookdown.webs import Web, fits
from tests.samples import (
    CHAIN,
    EMPTY_BOOK,
    MOVING,
    SHARED,
    STEPS,
    random_book,
    strange_objects,
    strange_tuples,
)
from tests.test_standings import standing

ODD = strange_objects() + strange_tuples()
NO_WAYS = [
    ("rule", -1),
    ("rule", 6),
    ("rule", True),
    ("move", 0),
    ("Rule", 0),
    ["rule", 0],
    ("rule",),
    ("rule", 0, 0),
    (b"rule", 0),
    "rule",
    *ODD,
    *[("rule", odd) for odd in strange_objects()],
    *[(odd, 0) for odd in strange_objects() if odd != "rule"],
]


def bench_of(book, web):
    """A Bench on which a web was put."""
    bench = Bench(book)
    for op, parts in web.rows:
        bench.put(op, parts)
    return bench


def state(bench):
    """All that is told of a bench, but for looked and the journal."""
    values = range(len(bench.web().rows))
    labels = [(bench.gaps(value), bench.own_ways(value)) for value in values]
    return (bench.web(), bench.book_now(), bench.wishes(), labels, bench.total(), bench.undercut())


def everything(bench):
    return (state(bench), bench.looked(), bench.journal())


def random_deed(dice, bench):
    """Does a random deed, undo or redo, which is perhaps one that cannot be done; tells its words and what it told."""
    book, many = bench.book_now(), len(bench.web().rows)
    op = dice.randrange(len(book.arities))
    value = dice.randrange(many + 1)
    thing = (value, dice.randrange(book.kinds))
    word = dice.choice("put put turn turn wish wish drop price price price undo undo undo redo redo".split())
    if word == "put":
        parts = tuple(dice.randrange(max(1, many)) for _ in range(book.arities[op]))
        return (word, bench.put(op, parts))
    if word == "turn":
        parts = tuple(dice.randrange(max(1, value)) for _ in range(book.arities[op]))
        return (word, bench.turn(value, op, parts))
    if word == "wish":
        return (word, bench.wish(thing))
    if word == "drop":
        return (word, bench.drop(dice.choice([thing, *bench.wishes()])))
    if word == "price":
        told = [("rule", dice.randrange(9)), ("rule", dice.randrange(9)), ("move", dice.randrange(3))]
        return (word, bench.reprice(dice.choice(told), dice.randint(1, 9)))
    return (word, bench.undo() if word == "undo" else bench.redo())


class DeedsTest(unittest.TestCase):
    def test_at_first(self):
        bench = Bench(CHAIN)
        self.assertEqual(everything(bench), ((Web(()), CHAIN, (), [], 0, None), [], ""))
        for deed in [bench.undo, bench.redo]:
            with self.assertRaises(NothingDone):
                deed()

    def test_put(self):
        bench = Bench(CHAIN)
        for number, (op, parts) in enumerate(STEPS.rows):
            self.assertEqual(bench.put(op, parts), number)
            self.assertEqual(bench.looked(), [number])
        self.assertEqual(bench.web(), STEPS)
        self.assertEqual(bench.gaps(0), (0, 0, None))
        self.assertEqual(bench.own_ways(1), (("rule", 2), ("rule", 3), None))
        self.assertEqual(bench.own_ways(2), (None, None, ("rule", 4)))
        self.assertEqual(bench.undercut(), ((2, 2), ("rule", 5)))
        self.assertEqual(bench.total(), 0)

    def test_no_value_to_put(self):
        bench = bench_of(CHAIN, STEPS)
        told = everything(bench)
        for op, parts in [
            (3, ()),
            (-1, ()),
            (True, (0,)),
            ("0", ()),
            (0, (0,)),
            (1, ()),
            (1, (0, 0)),
            (1, (3,)),
            (1, (-1,)),
            (1, (True,)),
            (1, [0]),
            (1, 0),
            (1, None),
            *[(1, odd) for odd in ODD if odd != (0,)],
            *[(odd, (0,)) for odd in strange_objects()],
        ]:
            with self.assertRaises(NoValue):
                bench.put(op, parts)
        self.assertEqual(everything(bench), told)

    def test_200_values(self):
        bench = bench_of(CHAIN, Web(((0, ()),) * 200))
        told = everything(bench)
        with self.assertRaises(TooMany) as caught:
            bench.put(0, ())
        self.assertEqual(caught.exception.most, 200)
        with self.assertRaises(NoValue):
            bench.put(0, (0,))
        self.assertEqual(everything(bench), told)
        bench.turn(199, 1, (198,))
        bench.undo()
        bench.undo()
        self.assertEqual(bench.put(1, (198,)), 199)

    def test_turn(self):
        bench = bench_of(CHAIN, Web(STEPS.rows + ((1, (0,)), (1, (3,)))))
        self.assertIsNone(bench.turn(1, 2, (0,)))
        self.assertEqual(bench.web().rows[1], (2, (0,)))
        # Value 2 is none that can be made now.
        self.assertEqual(bench.looked(), [1, 2])
        self.assertEqual(bench.own_ways(2), (None, None, None))
        bench.turn(1, 2, (0,))
        self.assertEqual(bench.looked(), [])
        self.assertEqual(bench.undercut(), None)
        # The standing of value 3 stays the same, so value 4 is not looked at.
        bench.turn(3, 1, (0,))
        self.assertEqual(bench.looked(), [])
        bench.turn(3, 0, ())
        self.assertEqual(bench.looked(), [3, 4])

    def test_a_change_that_stops(self):
        # Values of op 1 stand alike, whatever chain of them they are made of.
        bench = bench_of(CHAIN, Web(((0, ()), (1, (0,)), (1, (1,)), (1, (2,)), (2, (3,)))))
        bench.turn(1, 0, ())
        self.assertEqual(bench.looked(), [1, 2])
        bench.undo()
        self.assertEqual(bench.looked(), [1, 2])
        bench.turn(2, 1, (0,))
        self.assertEqual(bench.looked(), [2])

    def test_no_value_to_turn(self):
        bench = bench_of(CHAIN, STEPS)
        told = everything(bench)
        for value in [3, -1, True, False, "0", None, *ODD]:
            for op, parts in [(0, ()), (None, None)]:
                with self.assertRaises(NoValue):
                    bench.turn(value, op, parts)
        for value, op, parts in [
            (0, 1, (0,)),
            (1, 1, (1,)),
            (1, 1, (2,)),
            (1, 3, ()),
            (1, 0, (0,)),
            (1, True, (0,)),
            (2, 1, [0]),
            *[(2, 1, odd) for odd in ODD if odd != (0,)],
            *[(2, odd, (0,)) for odd in strange_objects()],
        ]:
            with self.assertRaises(NoValue):
                bench.turn(value, op, parts)
        self.assertEqual(everything(bench), told)

    def test_wish_and_drop(self):
        bench = bench_of(CHAIN, STEPS)
        self.assertIsNone(bench.wish((2, 2)))
        self.assertEqual((bench.wishes(), bench.total(), bench.looked()), (((2, 2),), 4, []))
        # One that is not makeable is wished all the same, and costs nothing.
        bench.wish((2, 0))
        bench.wish((1, 1))
        self.assertEqual((bench.wishes(), bench.total()), (((1, 1), (2, 0), (2, 2)), 6))
        self.assertIsNone(bench.drop((2, 2)))
        self.assertEqual((bench.wishes(), bench.total(), bench.looked()), (((1, 1), (2, 0)), 2, []))
        bench.turn(2, 1, (1,))
        self.assertEqual(bench.total(), 5)

    def test_what_is_wished_already(self):
        bench = bench_of(CHAIN, STEPS)
        bench.wish((0, 0))
        bench.wish((0, 0))
        self.assertEqual(bench.wishes(), ((0, 0),))
        bench.undo()
        self.assertEqual(bench.wishes(), ((0, 0),))
        bench.undo()
        self.assertEqual(bench.wishes(), ())
        bench.redo()
        bench.redo()
        bench.drop((0, 0))
        self.assertEqual(bench.wishes(), ())
        self.assertTrue(bench.journal().endswith("wish 0 0\nwish 0 0\nundo\nundo\nredo\nredo\ndrop 0 0\n"))

    def test_no_thing_and_no_wish(self):
        bench = bench_of(CHAIN, STEPS)
        bench.wish((0, 0))
        bench.wish((1, 1))
        told = everything(bench)
        for odd in [(3, 0), (0, 3), (-1, 0), (0, -1), (0, False), (True, 1), [0, 0], (0,), (0, 0, 0), "00", *ODD]:
            if odd != (0, 0):
                with self.assertRaises(NoThing):
                    bench.wish(odd)
                with self.assertRaises(NoWish):
                    bench.drop(odd)
        for odd in [(False, 0), (1, True)]:
            with self.assertRaises(NoThing):
                bench.wish(odd)
            with self.assertRaises(NoWish):
                bench.drop(odd)
        for thing in [(0, 1), (2, 2), (2, 0)]:
            with self.assertRaises(NoWish):
                bench.drop(thing)
        self.assertEqual(everything(bench), told)

    def test_reprice_of_a_rule(self):
        bench = bench_of(CHAIN, Web(STEPS.rows + ((0, ()), (1, (3,)))))
        self.assertIsNone(bench.reprice(("rule", 4), 1))
        self.assertEqual(bench.book_now().rules[4], (2, (0,), 2, 1))
        self.assertEqual(bench.looked(), [2])
        bench.reprice(("rule", 4), 1)
        self.assertEqual(bench.looked(), [2])
        # Both prices of a leaf grow, so what stands on it is not looked at behind the second one.
        bench.reprice(("rule", 0), 1000)
        self.assertEqual(bench.looked(), [0, 1, 2, 3, 4])
        bench.reprice(("rule", 1), 999)
        self.assertEqual(bench.gaps(1), (1, 0, None))
        self.assertEqual(bench.looked(), [0, 1, 2, 3, 4])
        bench.reprice(("rule", 2), 1)
        self.assertEqual(bench.looked(), [1, 4])
        bench.undo()
        self.assertEqual(bench.looked(), [1, 4])
        self.assertEqual(CHAIN.rules[4], (2, (0,), 2, 2))

    def test_reprice_of_a_move(self):
        bench = bench_of(MOVING, SHARED)
        bench.wish((4, 0))
        before = bench.book_now()
        for price in [1, 1, 7, 1000]:
            bench.reprice(("move", 1), price)
            self.assertEqual(bench.book_now().moves[1], (1, 0, price))
            self.assertEqual(bench.looked(), [0, 1, 2, 3, 4])
        self.assertEqual(bench.book_now().moves[0], (0, 1, 1))
        for _ in range(4):
            bench.undo()
            self.assertEqual(bench.looked(), [0, 1, 2, 3, 4])
        self.assertEqual(bench.book_now(), before)
        empty = Bench(MOVING)
        empty.reprice(("move", 0), 9)
        self.assertEqual(empty.looked(), [])

    def test_no_way_and_no_number(self):
        bench = bench_of(CHAIN, STEPS)
        told = everything(bench)
        for odd in NO_WAYS:
            for price in [5, 0, None]:
                with self.assertRaises(NoWay):
                    bench.reprice(odd, price)
        for odd in [0, 1001, -1, True, "1", None, *ODD]:
            with self.assertRaises(NoNumber):
                bench.reprice(("rule", 0), odd)
        self.assertEqual(everything(bench), told)
        for price in [1, 1000]:
            bench.reprice(("rule", 0), price)


class TellingTest(unittest.TestCase):
    def test_no_value(self):
        bench = bench_of(CHAIN, STEPS)
        for odd in [3, -1, True, False, None, "0", (0,), *ODD]:
            for method in [bench.gaps, bench.own_ways]:
                with self.assertRaises(NoValue):
                    method(odd)

    def test_new_lists(self):
        bench = bench_of(CHAIN, STEPS)
        bench.looked().clear()
        self.assertEqual(bench.looked(), [2])

    def test_equal_to_nothing_of_another_class(self):
        bench = bench_of(CHAIN, STEPS)
        for other in [CHAIN, STEPS, None, 0, "", []]:
            self.assertFalse(bench == other)
            self.assertFalse(other == bench)

    def test_values_without_makeable_things(self):
        bench = bench_of(EMPTY_BOOK, Web(((0, ()), (0, ()))))
        bench.wish((1, 0))
        self.assertEqual((bench.gaps(1), bench.own_ways(1)), ((None,), (None,)))
        self.assertEqual((bench.total(), bench.undercut(), bench.wishes()), (0, None, ((1, 0),)))


class UndoTest(unittest.TestCase):
    def test_all_five_deeds(self):
        bench = bench_of(MOVING, SHARED)
        before = [state(bench)]
        deeds = [
            lambda: bench.put(1, (4, 4)),
            lambda: bench.wish((5, 1)),
            lambda: bench.turn(3, 0, ()),
            lambda: bench.reprice(("rule", 3), 9),
            lambda: bench.drop((5, 1)),
            lambda: bench.reprice(("move", 2), 9),
        ]
        for deed in deeds:
            deed()
            before.append(state(bench))
        looked = [[], [5], [], [3, 4], [2, 5], [], [0, 1, 2, 3, 4, 5]]
        for at in range(6, 0, -1):
            bench.undo()
            self.assertEqual(state(bench), before[at - 1])
        self.assertEqual(bench.looked(), [])
        for at in range(1, 7):
            bench.redo()
            self.assertEqual(state(bench), before[at])
            self.assertEqual(bench.looked(), looked[at])
        with self.assertRaises(NothingDone):
            bench.redo()

    def test_looked_by_undo_and_redo(self):
        bench = bench_of(CHAIN, STEPS)
        bench.undo()
        self.assertEqual(bench.looked(), [])
        bench.redo()
        self.assertEqual(bench.looked(), [2])
        bench.turn(0, 0, ())
        self.assertEqual(bench.looked(), [])
        bench.undo()
        self.assertEqual(bench.looked(), [])
        bench.turn(1, 0, ())
        bench.wish((1, 1))
        bench.undo()
        self.assertEqual(bench.looked(), [])
        bench.undo()
        self.assertEqual(bench.looked(), [1, 2])

    def test_redo_is_lost_behind_another_deed(self):
        bench = bench_of(CHAIN, STEPS)
        bench.undo()
        bench.put(1, (1,))
        with self.assertRaises(NothingDone):
            bench.redo()
        self.assertEqual(bench.web().rows, STEPS.rows[:2] + ((1, (1,)),))
        # Also behind one that changes nothing.
        bench.undo()
        bench.reprice(("rule", 0), 1)
        with self.assertRaises(NothingDone):
            bench.redo()

    def test_redo_is_kept_behind_a_deed_that_cannot_be_done(self):
        bench = bench_of(CHAIN, STEPS)
        bench.undo()
        for deed in [
            lambda: bench.put(1, (5,)),
            lambda: bench.turn(2, 0, ()),
            lambda: bench.wish((2, 0)),
            lambda: bench.drop((0, 0)),
            lambda: bench.reprice(("rule", 0), 0),
        ]:
            told = everything(bench)
            with self.assertRaises(LookError):
                deed()
            self.assertEqual(everything(bench), told)
        bench.redo()
        self.assertEqual(bench.web(), STEPS)

    def test_nothing_done(self):
        bench = bench_of(CHAIN, STEPS)
        for _ in range(3):
            bench.undo()
        told = everything(bench)
        with self.assertRaises(NothingDone):
            bench.undo()
        self.assertEqual(everything(bench), told)
        self.assertEqual(bench.web(), Web(()))
        for _ in range(3):
            bench.redo()
        told = everything(bench)
        with self.assertRaises(NothingDone):
            bench.redo()
        self.assertEqual(everything(bench), told)


class CopyTest(unittest.TestCase):
    def test_they_go_on_apart(self):
        bench = bench_of(CHAIN, STEPS)
        bench.wish((2, 2))
        bench.undo()
        other = bench.copy()
        self.assertEqual(everything(other), everything(bench))
        self.assertIsInstance(other, Bench)
        told = everything(bench)
        other.redo()
        self.assertEqual(other.wishes(), ((2, 2),))
        for _ in range(3):
            other.undo()
        other.reprice(("rule", 0), 9)
        other.put(0, ())
        other.wish((0, 0))
        self.assertEqual(everything(bench), told)
        bench.redo()
        self.assertEqual((bench.wishes(), bench.web()), (((2, 2),), STEPS))
        self.assertEqual(other.wishes(), ((0, 0),))

    def test_looked_is_kept(self):
        bench = bench_of(CHAIN, STEPS)
        self.assertEqual(bench.copy().looked(), [2])
        bench.turn(0, 0, ())
        self.assertEqual(bench.copy().looked(), [])


class WalkTest(unittest.TestCase):
    def told_looked(self, after, labels, others, base):
        """The values labelled anew: those of base, and those with a part whose standing is another one."""
        found = []
        for value, (_, parts) in enumerate(after.rows):
            if value in base or any(labels.get(part) != others.get(part) for part in parts):
                found.append(value)
        return found

    def test_against_the_functions(self):
        done = {}
        for seed in range(60):
            dice = random.Random(seed)
            bench = Bench(random_book(seed))
            past = ([], [])
            for _ in range(40):
                before, before_book = bench.web(), bench.book_now()
                labels = {value: standing(before_book, before, value) for value in range(len(before.rows))}
                told = everything(bench)
                try:
                    word = random_deed(dice, bench)[0]
                except LookError:
                    self.assertEqual(everything(bench), told)
                    continue
                done[word] = done.get(word, 0) + 1
                self.check_now(bench)
                after = bench.web()
                others = {value: standing(bench.book_now(), after, value) for value in range(len(after.rows))}
                base = self.base(before, after, bench, past)
                self.assertEqual(bench.looked(), self.told_looked(after, labels, others, base))
        self.assertEqual(len(done), 7)
        self.assertGreater(min(done.values()), 10)

    def base(self, before, after, bench, past):
        """The values that the last line of the journal names itself."""
        words = bench.journal().split("\n")[-2].split(" ")
        undone = words == ["undo"]
        if words in (["undo"], ["redo"]):
            words = past[0].pop() if undone else past[1].pop()
            past[1 if undone else 0].append(words)
        else:
            past[0].append(words)
            past[1].clear()
        if words[0] == "rule":
            op = bench.book_now().rules[int(words[1])][0]
            return [value for value, row in enumerate(after.rows) if row[0] == op]
        if words[0] == "move":
            return list(range(len(after.rows)))
        if words[0] == "put":
            return [] if undone else [len(after.rows) - 1]
        if words[0] == "turn" and before.rows[int(words[1])] != after.rows[int(words[1])]:
            return [int(words[1])]
        return []

    def check_now(self, bench):
        web, book = bench.web(), bench.book_now()
        self.assertTrue(fits(book, web))
        for value in range(len(web.rows)):
            self.assertEqual((bench.gaps(value), bench.own_ways(value)), standing(book, web, value))
        choice = own(book, web)
        made = makeable(book, web)
        wishes = tuple(thing for thing in bench.wishes() if thing in made)
        self.assertEqual(bench.total(), cost(book, web, choice, wishes))
        self.assertEqual(bench.undercut(), undercut(book, web, choice))


class JournalTest(unittest.TestCase):
    def test_each_kind_of_line(self):
        bench = Bench(MOVING)
        lines = []
        for deed, line in [
            (lambda: bench.put(0, ()), "put 0"),
            (lambda: bench.put(1, (0, 0)), "put 1 0 0"),
            (lambda: bench.put(2, (1,)), "put 2 1"),
            (lambda: bench.turn(2, 1, (0, 1)), "turn 2 1 0 1"),
            (lambda: bench.turn(0, 0, ()), "turn 0 0"),
            (lambda: bench.wish((2, 3)), "wish 2 3"),
            (lambda: bench.wish((2, 3)), "wish 2 3"),
            (lambda: bench.drop((2, 3)), "drop 2 3"),
            (lambda: bench.reprice(("rule", 4), 1000), "rule 4 1000"),
            (lambda: bench.reprice(("move", 0), 1), "move 0 1"),
            (bench.undo, "undo"),
            (bench.undo, "undo"),
            (bench.redo, "redo"),
            (lambda: bench.put(0, ()), "put 0"),
        ]:
            deed()
            lines.append(line)
            self.assertEqual(bench.journal(), "".join(each + "\n" for each in lines))

    def test_there_and_back(self):
        for seed in range(40):
            dice = random.Random(seed)
            bench = Bench(random_book(seed))
            for _ in range(30):
                try:
                    random_deed(dice, bench)
                except LookError:
                    pass
            other, many = replayed(random_book(seed), bench.journal())
            self.assertEqual(many, len(bench.journal()))
            self.assertEqual(everything(other), everything(bench))
            # They go on alike, taking back and doing again.
            for _ in range(10):
                for each in [bench, other]:
                    try:
                        each.undo()
                    except NothingDone:
                        pass
                self.assertEqual(everything(other), everything(bench))
            for _ in range(10):
                for each in [bench, other]:
                    try:
                        each.redo()
                    except NothingDone:
                        pass
                self.assertEqual(everything(other), everything(bench))

    def test_redo_is_open_behind_a_journal(self):
        other, many = replayed(CHAIN, "put 0\nput 0\nundo\n")
        self.assertEqual(many, 17)
        other.redo()
        self.assertEqual(len(other.web().rows), 2)

    def test_cut_at_each_sign(self):
        bench = bench_of(CHAIN, STEPS)
        bench.wish((2, 2))
        bench.reprice(("rule", 4), 10)
        bench.undo()
        bench.redo()
        bench.drop((2, 2))
        bench.turn(2, 1, (0,))
        journal = bench.journal()
        whole = 0
        for cut in range(len(journal) + 1):
            if cut > 0 and journal[cut - 1] == "\n":
                whole = cut
            other, many = replayed(CHAIN, journal[:cut])
            self.assertEqual(many, whole)
            self.assertEqual(other.journal(), journal[:whole])

    def stops(self, lines, done, book=CHAIN):
        """Just so many of the lines are done."""
        journal = "".join(line + "\n" for line in lines)
        other, many = replayed(book, journal)
        told = "".join(line + "\n" for line in lines[:done])
        self.assertEqual((other.journal(), many), (told, len(told)))
        self.assertEqual(replayed(book, told)[1], len(told))

    def test_lines_that_are_not_written_so(self):
        for line in [
            "",
            " ",
            "put",
            "put ",
            "put  0",
            " put 0",
            "put 0 ",
            "put 00",
            "put +0",
            "put -0",
            "put 0x0",
            "put 0000000000",
            "Put 0",
            "putt 0",
            "put 1  0",
            "put 1 00",
            "put 1,0",
            "turn",
            "turn 0",
            "turn 00 0",
            "turn 1 1 01",
            "wish",
            "wish 0",
            "wish 0 0 0",
            "wish 0 00",
            "wish (0, 0)",
            "drop",
            "drop 1",
            "drop 1 1 1",
            "drop 01 1",
            "rule",
            "rule 0",
            "rule 0 1 1",
            "rule 0 01",
            "rule 0 1 ",
            "move 0",
            "undo ",
            "undo 0",
            " undo",
            "undo undo",
            "redo 0",
            "redo ",
            "Undo",
            "copy",
            "0",
            "\t",
        ]:
            self.stops(["put 0", "put 1 0", "wish 1 1", line, "put 0"], 3)

    def test_deeds_that_cannot_be_done(self):
        for line in [
            "put 3",
            "put 0 0",
            "put 1",
            "put 1 2",
            "put 1 0 0",
            "put 123456789",
            "turn 2 0",
            "turn 0 1 0",
            "turn 1 1 1",
            "wish 2 0",
            "wish 0 3",
            "drop 0 0",
            "drop 9 9",
            "rule 6 1",
            "rule 0 0",
            "rule 0 1001",
            "move 0 1",
            "redo",
        ]:
            self.stops(["put 0", "put 1 0", "wish 1 1", line, "put 0"], 3)
        self.stops(["undo"], 0)
        for line in ["redo 0", "redo ", "copy", "Redo", "redo redo", ""]:
            self.stops(["put 0", "undo", line, "put 0"], 2)
        self.stops(["put 0", "undo", "undo", "put 0"], 2)
        self.stops(["put 0", "undo", "redo", "redo"], 3)
        self.stops(["put 0", "undo", "put 0", "redo"], 3)
        self.stops(["put 0"] * 201, 200)
        self.stops(["move 0 1"], 1, MOVING)

    def test_the_last_line_without_a_line_feed(self):
        for journal, told in [("put 0", 0), ("put 0\nput 0", 6), ("", 0), ("\n", 0), ("put 0\n\n", 6)]:
            other, many = replayed(CHAIN, journal)
            self.assertEqual((many, len(other.web().rows)), (told, told // 6))

    def test_no_text(self):
        for odd in [None, 0, b"put 0\n", ["put 0"], *[odd for odd in ODD if not isinstance(odd, str)]]:
            with self.assertRaises(NoText):
                replayed(CHAIN, odd)

    def test_the_book_at_first(self):
        other, _ = replayed(CHAIN, "rule 0 9\n")
        self.assertEqual(other.book_now().rules[0], (0, (), 0, 9))
        self.assertIsInstance(other.book_now(), Book)
        self.assertEqual(CHAIN.rules[0], (0, (), 0, 1))


if __name__ == "__main__":
    unittest.main()
