import unittest

from lookdown.books import Book
from lookdown.errors import BadWeb, LookError, NoValue, TooMany
from lookdown.webs import Web, below, beside, fits, folded, part_web, unfolded
from tests.samples import (
    CHAIN,
    EMPTY_WEB,
    MOVING,
    SHARED,
    STEPS,
    random_book,
    random_web,
    strange_objects,
    strange_tuples,
)

NO_VALUES = [-1, True, False, "0", "", None, (0,), [0], 10**39, *strange_objects()]
LONG = Web(((0, ()),) + tuple((1, (k,)) for k in range(199)))


def doubling(many):
    """A web in which each value but the first uses the one ahead of it twice."""
    return Web(((0, ()),) + tuple((2, (k, k)) for k in range(many - 1)))


def tree(web, value):
    """The value with its parts in place of their numbers."""
    op, parts = web.rows[value]
    return (op, tuple(tree(web, part) for part in parts))


def post_order(found, grown):
    """The rows of a tree, parts first, the first part's first."""
    op, parts = grown
    tops = []
    for part in parts:
        post_order(found, part)
        tops.append(len(found) - 1)
    found.append((op, tuple(tops)))
    return tuple(found)


class WebTest(unittest.TestCase):
    def bad(self, index, values):
        with self.assertRaises(BadWeb) as caught:
            Web(values)
        self.assertEqual(caught.exception.index, index)

    def test_rows(self):
        for values in [(), ((0, ()),), ((7, ()), (0, (0, 0)), (3, (1,)), (4, (2, 0)))]:
            web = Web(values)
            self.assertEqual(web.rows, values)
            self.assertIsInstance(web.rows, tuple)
            self.assertEqual(list(vars(web)), ["rows"])

    def test_number_of_values(self):
        self.assertEqual(len(Web(((0, ()),) * 200).rows), 200)
        self.bad(-1, ((0, ()),) * 201)
        self.bad(-1, (None,) * 201)
        for values in [[], [(0, ())], None, 0, "", {}, range(0), True]:
            self.bad(-1, values)

    def test_ops(self):
        for op in [0, 7]:
            self.assertEqual(Web(((op, ()),)).rows, ((op, ()),))
        for op in [8, -1, True, False, "0", None, (0,), [0]]:
            self.bad(0, ((op, ()),))
            self.bad(2, ((0, ()), (1, (0,)), (op, (0,))))

    def test_parts(self):
        ahead = ((0, ()), (1, (0,)))
        for parts in [(), (0,), (1,), (0, 0), (1, 0), (1, 1)]:
            self.assertEqual(Web((*ahead, (2, parts))).rows[2], (2, parts))
        wrong = [(0, 0, 0), (2,), (3,), (0, 2), (2, 0), (-1,), (0, -1), (True,), (0, False), ("0",), [0], [], 0, None, ""]
        for parts in wrong:
            self.bad(2, (*ahead, (2, parts)))
        self.bad(0, ((0, (0,)),))

    def test_values_that_are_no_pairs(self):
        for value in [(), (0,), (0, (), 0), [0, ()], None, 0, "0", {}]:
            self.bad(0, (value,))
            self.bad(1, ((0, ()), value))

    def test_the_first_wrong_value_is_told(self):
        self.bad(1, ((0, ()), (8, ()), None, (0, (9,))))
        self.bad(199, ((0, ()),) * 199 + (None,))

    def test_strange_objects(self):
        for odd in strange_objects():
            self.bad(0 if isinstance(odd, tuple) and len(odd) < 201 else -1, odd)
            self.bad(1, ((0, ()), odd))
            self.bad(1, ((0, ()), (odd, ())))
            self.bad(1, ((0, ()), (0, odd)))
            self.bad(1, ((0, ()), (0, (odd,))))
            self.bad(1, ((0, ()), (0, (0, odd))))
        for odd in strange_tuples():
            self.bad(1, ((0, ()), odd))

    def test_equality(self):
        self.assertTrue(STEPS == Web(STEPS.rows))
        self.assertFalse(STEPS != Web(STEPS.rows))
        self.assertFalse(STEPS == Web(STEPS.rows[:2]))
        self.assertTrue(STEPS != Web(((0, ()), (1, (0,)), (2, (0,)))))
        self.assertTrue(EMPTY_WEB == Web(()))

    def test_equal_to_nothing_of_another_class(self):
        for other in [STEPS.rows, None, 0, "web", CHAIN, Web, LookError(), list(STEPS.rows)]:
            self.assertFalse(STEPS == other)
            self.assertTrue(STEPS != other)
            self.assertFalse(other == STEPS)


class FitsTest(unittest.TestCase):
    def test_webs_of_a_book(self):
        for book, web in [(CHAIN, STEPS), (MOVING, SHARED), (CHAIN, EMPTY_WEB), (CHAIN, LONG)]:
            self.assertIs(fits(book, web), True)

    def test_webs_of_no_book(self):
        for rows in [((3, ()),), ((1, ()),), ((0, ()), (0, (0,))), ((0, ()), (1, (0, 0))), ((0, ()), (7, (0,)))]:
            self.assertIs(fits(CHAIN, Web(rows)), False)
        self.assertIs(fits(CHAIN, SHARED), False)
        self.assertIs(fits(Book((2,), 1, (), ()), Web(((0, ()),))), False)
        last_is_wrong = Web(STEPS.rows + ((0, (0, 1)),))
        self.assertIs(fits(CHAIN, last_is_wrong), False)

    def test_what_is_no_web(self):
        for odd in [*strange_objects(), STEPS.rows, ()]:
            self.assertIs(fits(CHAIN, odd), False)

    def test_what_is_no_book(self):
        for odd in [*strange_objects(), STEPS, CHAIN.rules]:
            if odd is not CHAIN:
                self.assertIs(fits(odd, STEPS), False)

    def test_greater_webs(self):
        self.assertIs(fits(CHAIN, beside(LONG, LONG)), True)


class BelowTest(unittest.TestCase):
    def test_examples(self):
        self.assertEqual(below(SHARED, 0), (0,))
        self.assertEqual(below(SHARED, 1), (1,))
        self.assertEqual(below(SHARED, 2), (0, 2))
        self.assertEqual(below(SHARED, 3), (0, 2, 3))
        self.assertEqual(below(SHARED, 4), (0, 2, 3, 4))
        self.assertEqual(below(Web(((0, ()), (0, ()), (0, (1, 0)))), 2), (0, 1, 2))

    def test_long_chain(self):
        self.assertEqual(below(LONG, 199), tuple(range(200)))
        self.assertEqual(below(doubling(200), 199), tuple(range(200)))

    def test_against_reaching(self):
        for seed in range(40):
            web = random_web(seed, random_book(seed), 12)
            for value in range(12):
                reached, fresh = set(), [value]
                while fresh:
                    each = fresh.pop()
                    reached.add(each)
                    fresh.extend(web.rows[each][1])
                self.assertEqual(below(web, value), tuple(sorted(reached)))

    def test_no_value(self):
        for function in [below, part_web, unfolded]:
            for odd in NO_VALUES:
                with self.assertRaises(NoValue):
                    function(STEPS, odd)
            for web, odd in [(STEPS, 3), (STEPS, 4), (EMPTY_WEB, 0), (LONG, 200)]:
                with self.assertRaises(NoValue):
                    function(web, odd)


class PartWebTest(unittest.TestCase):
    def test_examples(self):
        self.assertEqual(part_web(SHARED, 1), Web(((0, ()),)))
        self.assertEqual(part_web(SHARED, 3), Web(((0, ()), (1, (0, 0)), (1, (0, 1)))))
        self.assertEqual(part_web(SHARED, 4), Web(((0, ()), (1, (0, 0)), (1, (0, 1)), (2, (2,)))))
        self.assertEqual(part_web(STEPS, 2), STEPS)

    def test_parts_keep_their_order(self):
        web = Web(((0, ()), (1, ()), (2, ()), (3, (2, 0)), (4, (3, 2))))
        self.assertEqual(part_web(web, 4), Web(((0, ()), (2, ()), (3, (1, 0)), (4, (2, 1)))))

    def test_long_chain(self):
        self.assertEqual(part_web(LONG, 199), LONG)
        self.assertEqual(len(part_web(LONG, 100).rows), 101)

    def test_the_same_tree(self):
        for seed in range(40):
            web = random_web(seed, random_book(seed), 10)
            for value in range(10):
                part = part_web(web, value)
                self.assertIsInstance(part, Web)
                self.assertEqual(len(part.rows), len(below(web, value)))
                self.assertEqual(tree(part, len(part.rows) - 1), tree(web, value))
                self.assertEqual(Web(part.rows), part)

    def test_of_a_greater_web(self):
        self.assertEqual(part_web(beside(LONG, LONG), 399), LONG)


class UnfoldedTest(unittest.TestCase):
    def test_examples(self):
        self.assertEqual(unfolded(STEPS, 2), STEPS)
        self.assertEqual(unfolded(STEPS, 0), Web(((0, ()),)))
        self.assertEqual(unfolded(SHARED, 2), Web(((0, ()), (0, ()), (1, (0, 1)))))
        rows = ((0, ()), (0, ()), (0, ()), (1, (1, 2)), (1, (0, 3)), (2, (4,)))
        self.assertEqual(unfolded(SHARED, 4), Web(rows))

    def test_first_part_first(self):
        web = Web(((0, ()), (1, ()), (2, (1, 0))))
        self.assertEqual(unfolded(web, 2), Web(((1, ()), (0, ()), (2, (0, 1)))))

    def test_against_trees(self):
        for seed in range(40):
            web = random_web(seed, random_book(seed), 8)
            for value in range(8):
                self.assertEqual(unfolded(web, value).rows, post_order([], tree(web, value)))

    def test_long_chain(self):
        self.assertEqual(unfolded(LONG, 199), LONG)

    def just(self, size):
        """A web whose last value unfolds to just so many values, by its bits."""
        rows = list(doubling(11).rows)
        top = None
        left = size
        for k in range(10, -1, -1):
            many = 2 ** (k + 1) - 1
            while left >= many + (0 if top is None else 1):
                if top is None:
                    top, left = k, left - many
                else:
                    rows.append((2, (top, k)))
                    top, left = len(rows) - 1, left - many - 1
        if left:
            rows.append((1, (top,)))
        return Web(tuple(rows))

    def test_just_2000_values(self):
        for size in [1998, 1999, 2000]:
            web = self.just(size)
            self.assertEqual(len(unfolded(web, len(web.rows) - 1).rows), size)

    def too_many(self, web, value):
        with self.assertRaises(TooMany) as caught:
            unfolded(web, value)
        self.assertEqual(caught.exception.most, 2000)

    def test_too_many(self):
        web = self.just(2001)
        self.too_many(web, len(web.rows) - 1)
        self.assertEqual(len(unfolded(doubling(12), 9).rows), 1023)
        self.too_many(doubling(12), 10)
        self.too_many(doubling(200), 199)

    def test_no_value_comes_first(self):
        with self.assertRaises(NoValue):
            unfolded(doubling(200), 200)

    def test_of_a_greater_web(self):
        web = beside(LONG, beside(LONG, STEPS))
        self.assertEqual(unfolded(web, 402), STEPS)
        wide = unfolded(doubling(10), 9)
        self.assertEqual(unfolded(wide, 1022), wide)


class FoldedTest(unittest.TestCase):
    def test_examples(self):
        self.assertEqual(folded(EMPTY_WEB), (EMPTY_WEB, ()))
        self.assertEqual(folded(STEPS), (STEPS, (0, 1, 2)))
        web, places = folded(SHARED)
        self.assertEqual(web, Web(((0, ()), (1, (0, 0)), (1, (0, 1)), (2, (2,)))))
        self.assertEqual(places, (0, 0, 1, 2, 3))

    def test_alike_by_new_numbers(self):
        web = Web(((0, ()), (0, ()), (1, (0,)), (1, (1,)), (2, (2, 3)), (2, (3, 2)), (2, (0, 2))))
        self.assertEqual(
            folded(web), (Web(((0, ()), (1, (0,)), (2, (1, 1)), (2, (0, 1)))), (0, 0, 1, 1, 2, 2, 3))
        )

    def test_parts_in_another_order_are_not_alike(self):
        web = Web(((0, ()), (1, ()), (2, (0, 1)), (2, (1, 0))))
        self.assertEqual(folded(web), (web, (0, 1, 2, 3)))

    def test_another_op_is_not_alike(self):
        web = Web(((0, ()), (1, ()), (0, ()), (1, ())))
        self.assertEqual(folded(web), (Web(((0, ()), (1, ()))), (0, 1, 0, 1)))

    def test_undoes_unfolding(self):
        for many in [1, 5, 10]:
            web, places = folded(unfolded(doubling(many), many - 1))
            self.assertEqual(web, doubling(many))
            self.assertIsInstance(places, tuple)

    def test_the_same_trees(self):
        for seed in range(40):
            web = random_web(seed, random_book(seed), 12)
            small, places = folded(web)
            self.assertEqual(len(places), 12)
            trees = [tree(small, value) for value in range(len(small.rows))]
            self.assertEqual(len(set(trees)), len(trees))
            self.assertEqual([trees[place] for place in places], [tree(web, value) for value in range(12)])
            firsts = [places.index(number) for number in range(len(trees))]
            self.assertEqual(firsts, sorted(firsts))


class BesideTest(unittest.TestCase):
    def test_examples(self):
        self.assertEqual(beside(EMPTY_WEB, EMPTY_WEB), EMPTY_WEB)
        self.assertEqual(beside(STEPS, EMPTY_WEB), STEPS)
        self.assertEqual(beside(EMPTY_WEB, STEPS), STEPS)
        rows = ((0, ()), (1, (0,)), (2, (1,)), (0, ()), (0, ()), (1, (3, 3)), (1, (3, 5)), (2, (6,)))
        self.assertEqual(beside(STEPS, SHARED), Web(rows))

    def test_more_than_200_values(self):
        web = beside(LONG, STEPS)
        self.assertIsInstance(web, Web)
        self.assertEqual(web.rows, LONG.rows + ((0, ()), (1, (200,)), (2, (201,))))
        with self.assertRaises(BadWeb):
            Web(web.rows)
        self.assertEqual(len(beside(web, web).rows), 406)
        self.assertEqual(below(web, 202), (200, 201, 202))
        self.assertEqual(folded(beside(LONG, LONG)), (LONG, tuple(range(200)) * 2))

    def test_nothing_passed_is_changed(self):
        rows, other_rows = STEPS.rows, SHARED.rows
        beside(STEPS, SHARED)
        folded(SHARED)
        unfolded(SHARED, 4)
        part_web(SHARED, 3)
        self.assertEqual((STEPS.rows, SHARED.rows), (((0, ()), (1, (0,)), (2, (1,))), other_rows))
        self.assertIs(STEPS.rows, rows)


if __name__ == "__main__":
    unittest.main()
