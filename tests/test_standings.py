import itertools
import unittest

from lookdown.alone import alone, own
from lookdown.books import Book
from lookdown.errors import NoWeb, TooMany
from lookdown.standings import labels, standings
from lookdown.webs import Web, beside, unfolded
from tests.samples import (
    CHAIN,
    DOUBLES,
    DOUBLING,
    EMPTY_BOOK,
    EMPTY_WEB,
    MOVING,
    PAIR,
    SHARED,
    STEPS,
    TWICE,
    random_book,
    random_web,
)
from tests.test_plans import NO_WEBS


def standing(book, web, value):
    """The standing of a value by alone prices and own ways."""
    prices, ways = alone(book, web), own(book, web)
    told = [prices.get((value, kind)) for kind in range(book.kinds)]
    least = min([price for price in told if price is not None], default=None)
    gaps = tuple(None if price is None else price - least for price in told)
    return (gaps, tuple(ways.get((value, kind)) for kind in range(book.kinds)))


def told_standings(book, most):
    """The list by rounds, of trees that are built; None for more than so many."""
    trees = {}
    rows = [(op, ()) for op, arity in enumerate(book.arities) if arity == 0]
    while True:
        known = list(trees)
        for op, parts in rows:
            web = EMPTY_WEB
            tops = []
            for part in parts:
                web = beside(web, trees[known[part]])
                tops.append(len(web.rows) - 1)
            # Built by the constructor, which these trees are small enough for.
            web = Web(web.rows + ((op, tuple(tops)),))
            trees.setdefault(standing(book, web, len(web.rows) - 1), web)
            if len(trees) > most:
                return None
        if len(trees) == len(known):
            return known
        rows = []
        for op, arity in enumerate(book.arities):
            if arity:
                rows.extend((op, parts) for parts in itertools.product(range(len(trees)), repeat=arity))


def drifting(cap):
    """A book in which a value of op 1 lies ever dearer in kind 1, up to the price of a move.

    It has the standing of a leaf, one for each gap from 1 to cap, and one by the move.
    """
    return Book((0, 1), 2, ((0, (), 0, 1), (0, (), 1, 1), (1, (0,), 0, 1), (1, (1,), 1, 2)), ((0, 1, cap),))


class StandingsTest(unittest.TestCase):
    def too_many(self, function, *told):
        with self.assertRaises(TooMany) as caught:
            function(*told)
        self.assertEqual(caught.exception.most, 30)

    def test_example(self):
        self.assertEqual(
            standings(CHAIN),
            [
                ((0, 0, None), (("rule", 0), ("rule", 1), None)),
                ((0, 0, None), (("rule", 2), ("rule", 3), None)),
                ((None, None, 0), (None, None, ("rule", 4))),
                ((None, None, None), (None, None, None)),
            ],
        )
        self.assertEqual(len(standings(CHAIN)), 4)

    def test_no_ops_without_parts(self):
        book = Book((1, 2), 2, ((0, (0,), 0, 1),), ())
        self.assertEqual(standings(book), [])
        self.assertEqual(labels(book, EMPTY_WEB), ())

    def test_values_without_makeable_things(self):
        self.assertEqual(standings(EMPTY_BOOK), [((None,), (None,))])
        book = Book((0, 0, 1), 2, ((0, (), 1, 5), (2, (1,), 1, 5)), ())
        none = ((None, None), (None, None))
        first = ((None, 0), (None, ("rule", 0)))
        self.assertEqual(standings(book), [first, none, ((None, 0), (None, ("rule", 1)))])

    def test_gaps_are_less_the_least(self):
        rules = ((0, (), 0, 10), (0, (), 1, 4), (1, (0, 0), 0, 5), (1, (0, 1), 1, 8))
        book = Book((0, 2), 3, rules, ((0, 2, 100), (0, 1, 7), (1, 0, 7)))
        self.assertEqual(
            standings(book)[:2],
            [
                ((6, 0, 106), (("rule", 0), ("rule", 1), ("move", 0))),
                ((3, 0, 103), (("rule", 2), ("rule", 3), ("move", 0))),
            ],
        )
        self.assertEqual(standings(DOUBLING), [((0,), (("rule", 0),)), ((0,), (("rule", 1),))])

    def test_ways_alone_tell_standings_apart(self):
        book = Book((0, 0, 0), 1, ((0, (), 0, 3), (2, (), 0, 3), (1, (), 0, 5)), ())
        self.assertEqual([ways for _, ways in standings(book)], [(("rule", 0),), (("rule", 2),), (("rule", 1),)])

    def test_the_order_by_rounds(self):
        # Op 0 needs a part; what it gives of a leaf comes behind both leaves and ahead of op 3.
        rules = ((0, (0,), 0, 1), (1, (), 0, 1), (2, (), 0, 1), (3, (0, 0), 0, 1))
        book = Book((1, 0, 0, 2), 1, rules, ())
        self.assertEqual([ways[0] for _, ways in standings(book)], [("rule", 1), ("rule", 2), ("rule", 0), ("rule", 3)])

    def test_parts_of_one_round_are_of_earlier_ones(self):
        # Op 2 of op 1 comes a round later than op 2 of a leaf, though op 1 stands first.
        rules = ((0, (), 0, 1), (1, (0,), 1, 1), (2, (1,), 2, 1), (2, (0,), 0, 1), (2, (0,), 1, 5))
        book = Book((0, 1, 1), 3, rules, ())
        self.assertEqual(standings(book), told_standings(book, 30))
        self.assertEqual(
            standings(book)[:4],
            [
                ((0, None, None), (("rule", 0), None, None)),
                ((None, 0, None), (None, ("rule", 1), None)),
                ((0, 4, None), (("rule", 3), ("rule", 4), None)),
                ((None, None, None), (None, None, None)),
            ],
        )

    def test_just_30_and_more(self):
        self.assertEqual(len(standings(drifting(28))), 30)
        self.assertEqual(standings(drifting(28)), told_standings(drifting(28), 30))
        self.assertEqual([gaps for gaps, _ in standings(drifting(28))], [(0, k) for k in range(29)] + [(0, 28)])
        for cap in [29, 30, 1000]:
            self.too_many(standings, drifting(cap))
            self.too_many(labels, drifting(cap), EMPTY_WEB)
            self.too_many(labels, drifting(cap), Web(((0, ()), (1, (0,)))))
        # Without the move there is no end.
        self.too_many(standings, Book((0, 1), 2, drifting(1).rules, ()))

    def test_against_trees(self):
        sizes = []
        for seed in range(120):
            book = random_book(seed)
            told = told_standings(book, 9)
            if told is None:
                with_more = 31
                try:
                    with_more = len(standings(book))
                except TooMany:
                    pass
                self.assertGreater(with_more, 9)
            else:
                self.assertEqual(standings(book), told)
                sizes.append(len(told))
        self.assertGreater(len(sizes), 50)
        self.assertGreater(len(set(sizes)), 5)

    def test_a_list_that_is_changed_changes_nothing(self):
        told = standings(CHAIN)
        told.clear()
        self.assertEqual(len(standings(CHAIN)), 4)
        self.assertEqual(labels(CHAIN, STEPS), (0, 1, 2))


class LabelsTest(unittest.TestCase):
    def test_examples(self):
        self.assertEqual(labels(CHAIN, STEPS), (0, 1, 2))
        self.assertEqual(labels(CHAIN, EMPTY_WEB), ())
        web = Web(((0, ()), (2, (0,)), (1, (1,)), (1, (0,)), (1, (3,)), (2, (2,))))
        self.assertEqual(labels(CHAIN, web), (0, 2, 3, 1, 1, 3))
        self.assertEqual(labels(DOUBLING, DOUBLES), (0,) + (1,) * 199)

    def test_against_the_words(self):
        many = 0
        for seed in range(150):
            book = random_book(seed)
            web = random_web(seed, book, 8)
            try:
                told = standings(book)
            except TooMany:
                continue
            found = labels(book, web)
            self.assertEqual([told[number] for number in found], [standing(book, web, value) for value in range(8)])
            for value in range(8):
                tree = unfolded(web, value)
                self.assertEqual(labels(book, tree)[-1], found[value])
            many += len(set(found)) > 3
        self.assertGreater(many, 10)

    def test_values_that_are_used_by_many(self):
        told = standings(MOVING)
        found = labels(MOVING, SHARED)
        self.assertEqual([told[number] for number in found], [standing(MOVING, SHARED, value) for value in range(5)])
        self.assertEqual(labels(TWICE, PAIR), (0, 1))

    def test_it_hangs_on_the_op_and_the_parts_alone(self):
        book = drifting(5)
        web = Web(((0, ()),) + tuple((1, (k,)) for k in range(50)))
        self.assertEqual(labels(book, web), (0, 1, 2, 3, 4, 5) + (6,) * 45)

    def test_errors_in_their_order(self):
        for book in [CHAIN, drifting(1000)]:
            for odd in NO_WEBS:
                if odd is not SHARED:
                    with self.assertRaises(NoWeb):
                        labels(book, odd)
        for odd in [Web(((2, ()),)), Web(((1, ()),)), None, CHAIN]:
            with self.assertRaises(NoWeb):
                labels(drifting(1000), odd)
        with self.assertRaises(NoWeb):
            labels(None, STEPS)


if __name__ == "__main__":
    unittest.main()
