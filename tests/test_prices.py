import unittest

from lookdown.alone import own
from lookdown.books import Book
from lookdown.errors import NoChoice, NoWay, NoWeb
from lookdown.judging import is_best
from lookdown.prices import price_range
from lookdown.webs import Web
from tests.samples import (
    CHAIN,
    EMPTY_BOOK,
    EMPTY_WEB,
    STEPS,
    STEPS_OWN,
    all_choices,
    random_book,
    random_web,
    strange_objects,
    strange_tuples,
)
from tests.test_choices import NO_CHOICES, ROUND, ROUND_WAYS, ROUND_WEB
from tests.test_plans import NO_WEBS

NO_WAYS = [
    ("rule", 6),
    ("rule", -1),
    ("rule", 10**40 - 1),
    ("rule", True),
    ("rule", False),
    ("rule", "0"),
    ("rule", None),
    ("move", 0),
    ("Rule", 0),
    ("rules", 0),
    ("", 0),
    (b"rule", 0),
    (0, "rule"),
    (0, 0),
    ("rule",),
    ("rule", 0, 0),
    ["rule", 0],
    "rule 0",
    *strange_objects(),
    *strange_tuples(),
    *[("rule", odd) for odd in strange_objects()],
    *[(odd, 0) for odd in strange_objects() if odd != "rule"],
]


def repriced(book, way, price):
    word, k = way
    rules, moves = list(book.rules), list(book.moves)
    if word == "rule":
        rules[k] = (*rules[k][:3], price)
    else:
        moves[k] = (*moves[k][:2], price)
    return Book(book.arities, book.kinds, tuple(rules), tuple(moves))


def ways_of(book):
    return [("rule", k) for k in range(len(book.rules))] + [("move", k) for k in range(len(book.moves))]


def long_chain(many):
    """A book of the greatest prices and a web of which the last value comes by one of two long rows."""
    rules = ((0, (), 0, 1000), (0, (), 1, 1000), (1, (0,), 0, 1000), (1, (1,), 1, 1000))
    rules += ((2, (0,), 2, 1), (2, (1,), 2, 1))
    web = Web(((0, ()),) + tuple((1, (k,)) for k in range(many - 1)) + ((2, (many - 1,)),))
    return (Book((0, 1, 1), 3, rules, ()), web)


class PriceRangeTest(unittest.TestCase):
    def test_examples(self):
        ranges = {
            # A way that is not chosen, and would have to be dearer.
            ("rule", 5): (4, None),
            # The chosen one would have to be cheaper.
            ("rule", 4): (1, 1),
            # Even at the price 1 of each of these the extra of rule 5 is 4.
            ("rule", 2): None,
            ("rule", 0): None,
            ("rule", 1): None,
            ("rule", 3): None,
        }
        for way, told in ranges.items():
            self.assertEqual(price_range(CHAIN, STEPS, STEPS_OWN, way), told)

    def test_a_way_that_is_chosen(self):
        book = repriced(CHAIN, ("rule", 5), 6)
        ranges = {
            ("rule", 4): (1, 4),
            ("rule", 2): (1, 3),
            ("rule", 0): (1, 3),
            # Dearer or cheaper, these stand in no other's way as long as rule 5 needs just them.
            ("rule", 1): (1, None),
            ("rule", 3): (1, None),
            ("rule", 5): (4, None),
        }
        for way, told in ranges.items():
            self.assertEqual(price_range(book, STEPS, STEPS_OWN, way), told)

    def test_a_way_that_is_chosen_for_many(self):
        book = repriced(CHAIN, ("rule", 5), 13)
        web = Web(STEPS.rows[:2] + ((1, (1,)), (1, (2,)), (2, (3,))))
        choice = own(book, web)
        # Rule 2 is chosen three times: 3 for it and 3 for the others are at most 13.
        self.assertEqual(price_range(book, web, choice, ("rule", 2)), (1, (13 - 3) // 3))

    def test_a_way_that_nothing_uses(self):
        book = Book((0, 1, 2), 3, CHAIN.rules[:4] + ((2, (0, 0), 1, 7),), ())
        web = Web(STEPS.rows[:2])
        choice = own(book, web)
        self.assertEqual(price_range(book, web, choice, ("rule", 4)), (1, None))
        self.assertEqual(price_range(CHAIN, EMPTY_WEB, {}, ("rule", 0)), (1, None))

    def test_a_way_that_nothing_uses_helps_none_that_is_not_best(self):
        book = Book((0, 1, 1, 1), 3, CHAIN.rules + ((3, (0,), 1, 7),), ())
        self.assertIsNone(price_range(book, STEPS, STEPS_OWN, ("rule", 6)))

    def test_a_move(self):
        book = Book((0,), 2, ((0, (), 0, 3), (0, (), 1, 5)), ((0, 1, 1), (1, 0, 4)))
        web = Web(((0, ()),))
        ruled = {(0, 0): ("rule", 0), (0, 1): ("rule", 1)}
        moved = {(0, 0): ("rule", 0), (0, 1): ("move", 0)}
        self.assertEqual(price_range(book, web, ruled, ("move", 0)), (5, None))
        self.assertEqual(price_range(book, web, moved, ("move", 0)), (1, 2))
        self.assertEqual(price_range(book, web, moved, ("move", 1)), (1, None))
        self.assertEqual(price_range(book, web, moved, ("rule", 1)), (4, None))
        self.assertEqual(price_range(book, web, moved, ("rule", 0)), (1, 4))
        self.assertEqual(price_range(book, web, ruled, ("rule", 1)), (1, 1))

    def test_best_for_another_price_alone(self):
        self.assertIs(is_best(CHAIN, STEPS, STEPS_OWN), False)
        self.assertEqual(price_range(CHAIN, STEPS, STEPS_OWN, ("rule", 5)), (4, None))

    def test_ranges_beyond_1000(self):
        book, web = long_chain(4)
        choice = own(book, web)
        self.assertEqual(price_range(book, web, choice, ("rule", 5)), (4001, None))
        self.assertIsNone(price_range(book, web, choice, ("rule", 0)))
        many = 199
        book, web = long_chain(many)
        self.assertEqual(price_range(book, web, own(book, web), ("rule", 5)), (1000 * many + 1, None))

    def test_a_range_beyond_1000_of_a_move(self):
        rules = ((0, (), 0, 1000), (1, (0,), 0, 1000), (0, (), 1, 1000), (1, (1,), 1, 1000))
        book = Book((0, 1), 2, rules, ((0, 1, 1000),))
        web = Web(((0, ()), (1, (0,)), (1, (1,))))
        choice = {(0, 0): ("rule", 0), (0, 1): ("rule", 2)}
        choice.update({(k, kind): ("rule", 1 + 2 * kind) for k in (1, 2) for kind in (0, 1)})
        self.assertEqual(price_range(book, web, choice, ("move", 0)), (3000, None))
        self.assertIsNone(price_range(book, web, {**choice, (2, 1): ("move", 0)}, ("move", 0)))

    def test_a_greatest_one_of_1000(self):
        book = Book((0,), 2, ((0, (), 0, 700), (0, (), 1, 900)), ((0, 1, 1000),))
        choice = {(0, 0): ("rule", 0), (0, 1): ("rule", 1)}
        self.assertEqual(price_range(book, Web(((0, ()),)), choice, ("rule", 1)), (1, 1000))
        self.assertEqual(price_range(book, Web(((0, ()),)), choice, ("rule", 0)), (1, None))

    def test_against_all_prices(self):
        seen = {"none": 0, "open": 0, "closed": 0, "up": 0}
        for seed in range(60):
            book = random_book(seed)
            web = random_web(seed, book, 4)
            for choice in [own(book, web), *all_choices(book, web, 30)[:4]]:
                for way in ways_of(book):
                    # All sums of this web are below 60.
                    right = [price for price in range(1, 61) if is_best(repriced(book, way, price), web, choice)]
                    told = price_range(book, web, choice, way)
                    if not right:
                        self.assertIsNone(told)
                        seen["none"] += 1
                    elif right[-1] == 60:
                        self.assertEqual(told, (right[0], None))
                        self.assertIs(is_best(repriced(book, way, 1000), web, choice), True)
                        seen["open"] += 1
                    else:
                        self.assertEqual(told, (right[0], right[-1]))
                        seen["closed"] += 1
                    seen["up"] += bool(right) and right[0] > 1
                    self.assertEqual(right, list(range(right[0], right[-1] + 1)) if right else [])
        self.assertGreater(min(seen.values()), 10)

    def test_it_is_the_same_whatever_the_price_is_now(self):
        for seed in range(20):
            book = random_book(seed)
            web = random_web(seed, book, 4)
            choice = own(book, web)
            for way in ways_of(book):
                told = price_range(book, web, choice, way)
                for price in [1, 17, 1000]:
                    self.assertEqual(price_range(repriced(book, way, price), web, choice, way), told)


class ErrorsTest(unittest.TestCase):
    def test_errors_in_their_order(self):
        for odd in NO_WEBS:
            with self.assertRaises(NoWeb):
                price_range(CHAIN, odd, None, None)
        for odd in NO_CHOICES:
            with self.assertRaises(NoChoice):
                price_range(CHAIN, STEPS, odd, None)
        with self.assertRaises(NoChoice):
            price_range(ROUND, ROUND_WEB, ROUND_WAYS, ("rule", 0))
        for odd in NO_WAYS:
            with self.assertRaises(NoWay):
                price_range(CHAIN, STEPS, STEPS_OWN, odd)

    def test_the_book_counts_its_ways(self):
        choice = {**ROUND_WAYS, (0, 1): ("rule", 1)}
        for way in [("rule", 0), ("rule", 1), ("move", 0), ("move", 3)]:
            price_range(ROUND, ROUND_WEB, choice, way)
        for way in [("rule", 2), ("move", 4), ("move", -1), ("move", True)]:
            with self.assertRaises(NoWay):
                price_range(ROUND, ROUND_WEB, choice, way)
        with self.assertRaises(NoWay):
            price_range(EMPTY_BOOK, EMPTY_WEB, {}, ("rule", 0))


if __name__ == "__main__":
    unittest.main()
