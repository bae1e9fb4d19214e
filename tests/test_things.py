import itertools
import unittest

from lookdown.books import Book
from lookdown.errors import NoThing, NoWay, NoWeb
from lookdown.things import makeable, needs, ways
from lookdown.webs import Web, beside
from tests.samples import (
    CHAIN,
    EMPTY_BOOK,
    EMPTY_WEB,
    MOVING,
    SHARED,
    STEPS,
    random_book,
    random_web,
    strange_objects,
    strange_tuples,
)

NO_WEBS = [Web(((3, ()),)), SHARED, STEPS.rows, CHAIN, *strange_objects()]
NO_THINGS = [
    (),
    (0,),
    (0, 0, 0),
    [0, 0],
    (3, 0),
    (0, 3),
    (-1, 0),
    (0, -1),
    (True, 0),
    (0, False),
    ("0", 0),
    (0, None),
    (0, (0,)),
    0,
    {0: 0},
    (0, 0, ("rule", 0)),
    *strange_objects(),
    *strange_tuples(),
]
NO_WAYS = [
    (),
    ("rule",),
    ("rule", 0, 0),
    ["rule", 0],
    ("rule", 1),
    ("rule", -1),
    ("rule", 6),
    ("rule", 10**39),
    ("rule", False),
    ("rule", "0"),
    ("rule", [0]),
    ("move", 0),
    ("moves", 0),
    ("Rule", 0),
    (b"rule", 0),
    (("rule",), 0),
    (None, None),
    (0, "rule"),
    "rule 0",
    *strange_objects(),
    *strange_tuples(),
]


class WaysTest(unittest.TestCase):
    def test_rules(self):
        self.assertEqual(ways(CHAIN, STEPS, (0, 0)), [("rule", 0)])
        self.assertEqual(ways(CHAIN, STEPS, (1, 1)), [("rule", 3)])
        self.assertEqual(ways(CHAIN, STEPS, (2, 2)), [("rule", 4), ("rule", 5)])

    def test_things_without_ways(self):
        self.assertEqual(ways(CHAIN, STEPS, (0, 2)), [])
        self.assertEqual(ways(CHAIN, STEPS, (2, 0)), [])
        self.assertEqual(ways(EMPTY_BOOK, Web(((0, ()),)), (0, 0)), [])

    def test_moves_come_ahead_of_rules(self):
        self.assertEqual(ways(MOVING, SHARED, (0, 0)), [("move", 1), ("rule", 0)])
        self.assertEqual(ways(MOVING, SHARED, (2, 1)), [("move", 0), ("rule", 3)])
        self.assertEqual(ways(MOVING, SHARED, (4, 0)), [("move", 1), ("rule", 4)])
        self.assertEqual(ways(MOVING, SHARED, (0, 2)), [("move", 3)])

    def test_numbers_ascend(self):
        rules = tuple((0, (a, b), 0, 1) for a in range(3) for b in range(4))
        moves = tuple((source, 0, 1) for source in (3, 2, 1, 4))
        book = Book((2, 0), 5, rules, moves)
        web = Web(((1, ()), (0, (0, 0))))
        wanted = [("move", k) for k in range(4)] + [("rule", k) for k in range(12)]
        self.assertEqual(ways(book, web, (1, 0)), wanted)
        self.assertEqual(wanted, sorted(wanted))

    def test_lists_are_new(self):
        ways(CHAIN, STEPS, (2, 2)).clear()
        self.assertEqual(len(ways(CHAIN, STEPS, (2, 2))), 2)

    def test_no_web_comes_first(self):
        for odd in NO_WEBS:
            with self.assertRaises(NoWeb):
                ways(CHAIN, odd, None)

    def test_no_thing(self):
        for odd in NO_THINGS:
            with self.assertRaises(NoThing):
                ways(CHAIN, STEPS, odd)
        with self.assertRaises(NoThing):
            ways(CHAIN, EMPTY_WEB, (0, 0))


class NeedsTest(unittest.TestCase):
    def test_rules(self):
        self.assertEqual(needs(CHAIN, STEPS, (0, 0), ("rule", 0)), ())
        self.assertEqual(needs(CHAIN, STEPS, (2, 2), ("rule", 5)), ((1, 1),))
        self.assertEqual(needs(MOVING, SHARED, (3, 1), ("rule", 3)), ((0, 0), (2, 1)))

    def test_moves(self):
        self.assertEqual(needs(MOVING, SHARED, (3, 1), ("move", 0)), ((3, 0),))
        self.assertEqual(needs(MOVING, SHARED, (0, 2), ("move", 3)), ((0, 3),))

    def test_one_thing_twice(self):
        self.assertEqual(needs(MOVING, SHARED, (2, 0), ("rule", 2)), ((0, 0),))
        self.assertEqual(needs(MOVING, SHARED, (2, 1), ("rule", 3)), ((0, 0), (0, 1)))

    def test_needs_ascend(self):
        book = Book((0, 2), 2, ((1, (1, 0), 0, 1),), ())
        web = Web(((0, ()), (0, ()), (1, (1, 0)), (1, (0, 0))))
        self.assertEqual(needs(book, web, (2, 0), ("rule", 0)), ((0, 0), (1, 1)))
        self.assertEqual(needs(book, web, (3, 0), ("rule", 0)), ((0, 0), (0, 1)))

    def test_errors_in_their_order(self):
        for odd in NO_WEBS:
            with self.assertRaises(NoWeb):
                needs(CHAIN, odd, None, None)
        for odd in NO_THINGS:
            with self.assertRaises(NoThing):
                needs(CHAIN, STEPS, odd, None)
        for odd in NO_WAYS:
            with self.assertRaises(NoWay):
                needs(CHAIN, STEPS, (0, 0), odd)

    def test_a_way_of_another_thing(self):
        for way in [("rule", 0), ("rule", 2), ("rule", 1)]:
            with self.assertRaises(NoWay):
                needs(CHAIN, STEPS, (1, 1), way)
        for way in [("move", 1), ("move", 2), ("move", True), ("rule", 3), ("move", 4), ("move", -4)]:
            with self.assertRaises(NoWay):
                needs(MOVING, SHARED, (0, 1), way)


class MakeableTest(unittest.TestCase):
    def test_examples(self):
        self.assertEqual(makeable(CHAIN, STEPS), ((0, 0), (0, 1), (1, 0), (1, 1), (2, 2)))
        wanted = ((0, 0), (0, 1), (1, 0), (1, 1), (2, 0), (2, 1), (3, 0), (3, 1))
        self.assertEqual(makeable(MOVING, SHARED), wanted)

    def test_nothing_to_make(self):
        self.assertEqual(makeable(CHAIN, EMPTY_WEB), ())
        self.assertEqual(makeable(EMPTY_BOOK, Web(((0, ()), (0, ())))), ())

    def test_only_a_ring_gives_it(self):
        book = Book((0,), 4, ((0, (), 0, 1),), ((1, 2, 1), (2, 3, 1), (3, 1, 1)))
        self.assertEqual(makeable(book, Web(((0, ()),))), ((0, 0),))

    def test_a_chain_of_moves_against_their_order(self):
        book = Book((0,), 5, ((0, (), 4, 1),), ((1, 0, 1), (2, 1, 1), (3, 2, 1), (4, 3, 1)))
        self.assertEqual(makeable(book, Web(((0, ()),))), ((0, 0), (0, 1), (0, 2), (0, 3), (0, 4)))

    def test_a_part_that_is_not_makeable(self):
        book = Book((0, 2), 2, ((0, (), 0, 1), (1, (0, 1), 0, 1), (1, (0, 0), 1, 1)), ())
        web = Web(((0, ()), (1, (0, 0)), (1, (0, 1)), (1, (1, 1))))
        self.assertEqual(makeable(book, web), ((0, 0), (1, 1), (2, 0)))

    def test_long_chain(self):
        web = Web(((0, ()),) + tuple((1, (k,)) for k in range(199)))
        self.assertEqual(len(makeable(CHAIN, web)), 400)
        self.assertEqual(len(makeable(CHAIN, beside(web, web))), 800)

    def test_no_web(self):
        for odd in NO_WEBS:
            with self.assertRaises(NoWeb):
                makeable(CHAIN, odd)

    def test_against_rounds(self):
        for seed in range(60):
            book = random_book(seed)
            web = random_web(seed, book, 6)
            made = set()
            for _ in range(6 * book.kinds):
                for thing in itertools.product(range(6), range(book.kinds)):
                    if any(made.issuperset(needs(book, web, thing, way)) for way in ways(book, web, thing)):
                        made.add(thing)
            self.assertEqual(makeable(book, web), tuple(sorted(made)))


if __name__ == "__main__":
    unittest.main()
