import copy
import unittest

from lookdown.books import Book
from lookdown.errors import BadBook, LookError
from lookdown.webs import Web
from tests.samples import CHAIN, strange_objects, strange_tuples

# All triples (op, sources, kind) of an op with two parts are more than enough for 40 rules.
MANY_RULES = tuple((0, (a, b), kind, 1) for a in range(5) for b in range(5) for kind in range(2))
ALL_MOVES = tuple((source, kind, 1) for source in range(5) for kind in range(5) if source != kind)


class BookTest(unittest.TestCase):
    def bad(self, part, *told):
        with self.assertRaises(BadBook) as caught:
            Book(*told)
        self.assertEqual(caught.exception.part, part)
        self.assertIsInstance(caught.exception.part, tuple)

    def test_attributes(self):
        book = Book((0, 1, 2), 2, ((2, (0, 1), 1, 1000), (0, (), 0, 1)), ((0, 1, 3),))
        self.assertEqual(book.arities, (0, 1, 2))
        self.assertEqual(book.kinds, 2)
        self.assertEqual(book.rules, ((2, (0, 1), 1, 1000), (0, (), 0, 1)))
        self.assertEqual(book.moves, ((0, 1, 3),))
        self.assertEqual(sorted(vars(book)), ["arities", "kinds", "moves", "rules"])

    def test_arities(self):
        for arities in [(0,), (2,), (0, 1, 2, 0, 1, 2, 0, 1)]:
            self.assertEqual(Book(arities, 1, (), ()).arities, arities)
        wrong = [(), (0,) * 9, (3,), (-1,), (0, True), (False,), ("0",), (None,), ((0,),), [0], "0", 0, None, {0: 0}]
        for arities in wrong:
            self.bad(("arities",), arities, 1, (), ())

    def test_kinds(self):
        for kinds in [1, 2, 5]:
            self.assertEqual(Book((0,), kinds, (), ()).kinds, kinds)
        for kinds in [0, 6, -1, True, False, "1", None, (1,), [1]]:
            self.bad(("kinds",), (0,), kinds, (), ())

    def test_number_of_rules(self):
        self.assertEqual(len(Book((2,), 5, MANY_RULES[:40], ()).rules), 40)
        self.bad(("rules",), (2,), 5, MANY_RULES[:41], ())
        for rules in [[], [(0, (), 0, 1)], None, {}, "", 0, range(0)]:
            self.bad(("rules",), (0,), 1, rules, ())

    def test_number_of_moves(self):
        self.assertEqual(Book((0,), 5, (), ALL_MOVES).moves, ALL_MOVES)
        self.bad(("moves",), (0,), 5, (), ALL_MOVES + ((0, 1, 2),))
        for moves in [[], [(0, 1, 1)], None, {}, "", 0, range(0)]:
            self.bad(("moves",), (0,), 5, (), moves)

    def test_a_wrong_rule(self):
        right = (1, (0,), 1, 1)
        wrong = [
            (1, (0,), 1),
            (1, (0,), 1, 1, 1),
            [1, (0,), 1, 1],
            (3, (0,), 1, 1),
            (-1, (0,), 1, 1),
            (True, (0,), 1, 1),
            ("1", (0,), 1, 1),
            (1, (), 1, 1),
            (1, (0, 0), 1, 1),
            (0, (0,), 1, 1),
            (2, (0,), 1, 1),
            (1, [0], 1, 1),
            (1, 0, 1, 1),
            (1, (2,), 1, 1),
            (1, (-1,), 1, 1),
            (1, (False,), 1, 1),
            (1, (0,), 2, 1),
            (1, (0,), -1, 1),
            (1, (0,), True, 1),
            (1, (0,), 1, 0),
            (1, (0,), 1, -1),
            (1, (0,), 1, 1001),
            (1, (0,), 1, True),
            (1, (0,), 1, "1"),
            (),
            None,
            "rule",
        ]
        for rule in wrong:
            self.bad(("rule", 0), (0, 1, 2), 2, (rule,), ())
            self.bad(("rule", 1), (0, 1, 2), 2, (right, rule, None), ())
        for cost in [1, 1000]:
            Book((0, 1, 2), 2, ((1, (0,), 1, cost),), ())

    def test_a_rule_that_comes_again(self):
        first, again = (1, (0,), 1, 1), (1, (0,), 1, 2)
        self.bad(("rule", 1), (0, 1), 2, (first, again), ())
        self.bad(("rule", 2), (0, 1), 2, (first, (1, (1,), 1, 1), first, None), ())
        others = ((0, (), 1, 1), (1, (1,), 1, 1), (1, (0,), 0, 1))
        self.assertEqual(len(Book((0, 1), 2, (first, *others), ()).rules), 4)
        self.assertEqual(len(Book((1, 1), 2, (first, (0, (0,), 1, 1)), ()).rules), 2)

    def test_a_wrong_move(self):
        right = (0, 1, 1)
        wrong = [
            (1, 0),
            (1, 0, 1, 1),
            [1, 0, 1],
            (3, 0, 1),
            (0, 3, 1),
            (-1, 0, 1),
            (0, -1, 1),
            (True, 0, 1),
            (1, False, 1),
            (0, 0, 1),
            (2, 2, 1),
            (1, 0, 0),
            (1, 0, 1001),
            (1, 0, True),
            (1, 0, "1"),
            (),
            None,
            "move",
        ]
        for move in wrong:
            self.bad(("move", 0), (0,), 3, (), (move,))
            self.bad(("move", 1), (0,), 3, (), (right, move, None))
        for cost in [1, 1000]:
            Book((0,), 3, (), ((0, 1, cost),))

    def test_a_move_that_comes_again(self):
        self.bad(("move", 1), (0,), 3, (), ((0, 1, 1), (0, 1, 2)))
        self.bad(("move", 2), (0,), 3, (), ((0, 1, 1), (1, 0, 1), (0, 1, 1), None))
        self.assertEqual(len(Book((0,), 3, (), ((0, 1, 1), (1, 0, 1), (0, 2, 1), (2, 1, 1))).moves), 4)

    def test_the_first_part_named_is_told(self):
        self.bad(("arities",), None, None, None, None)
        self.bad(("kinds",), (0,), None, None, None)
        self.bad(("rules",), (0,), 1, None, None)
        self.bad(("moves",), (0,), 1, (None,), None)
        self.bad(("rule", 0), (0,), 1, (None,), (None,))
        self.bad(("move", 0), (0,), 1, (), (None,))

    def test_strange_objects(self):
        for odd in strange_objects():
            self.bad(("arities",), odd, 1, (), ())
            self.bad(("kinds",), (0,), odd, (), ())
            if not isinstance(odd, tuple):
                self.bad(("rules",), (0,), 1, odd, ())
                self.bad(("moves",), (0,), 1, (), odd)
        for odd in strange_tuples():
            self.bad(("kinds",), (0,), odd, (), ())
            if odd != ():
                self.bad(("rule", 0), (0,), 1, odd, ())
                self.bad(("move", 0), (0,), 1, (), odd)

    def test_strange_objects_inside(self):
        for odd in strange_objects():
            self.bad(("arities",), (0, odd), 1, (), ())
            for place in range(4):
                rule = [1, (1,), 0, 1]
                rule[place] = odd
                self.bad(("rule", 0), (0, 1), 2, (tuple(rule),), ())
            self.bad(("rule", 0), (0, 1), 2, ((1, (odd,), 0, 1),), ())
            self.bad(("rule", 0), (0, 1), 2, (odd,), ())
            for place in range(3):
                move = [1, 0, 1]
                move[place] = odd
                self.bad(("move", 0), (0, 1), 2, (), (tuple(move),))
            self.bad(("move", 0), (0, 1), 2, (), (odd,))

    def test_equality(self):
        told = (CHAIN.arities, CHAIN.kinds, CHAIN.rules, CHAIN.moves)
        self.assertTrue(CHAIN == Book(*told))
        self.assertFalse(CHAIN != Book(*told))
        base = ((0, 1), 2, ((0, (), 0, 1),), ((0, 1, 1),))
        others = [
            ((0, 2), 2, ((0, (), 0, 1),), ((0, 1, 1),)),
            ((0, 1), 3, ((0, (), 0, 1),), ((0, 1, 1),)),
            ((0, 1), 2, ((0, (), 0, 2),), ((0, 1, 1),)),
            ((0, 1), 2, ((0, (), 0, 1),), ((0, 1, 2),)),
        ]
        for other in others:
            self.assertFalse(Book(*base) == Book(*other))
            self.assertTrue(Book(*base) != Book(*other))

    def test_equal_to_nothing_of_another_class(self):
        told = ((0,), 1, (), ())
        for other in [told, None, 0, "book", Web(()), Book, LookError(), list(told)]:
            self.assertFalse(Book(*told) == other)
            self.assertTrue(Book(*told) != other)
            self.assertFalse(other == Book(*told))

    def test_nothing_passed_is_changed(self):
        rules = [[0, [], 0, 1]]
        kept = copy.deepcopy(rules)
        self.bad(("rules",), (0,), 1, rules, ())
        self.bad(("rule", 0), (0,), 1, (rules[0],), ())
        self.assertEqual(rules, kept)


if __name__ == "__main__":
    unittest.main()
