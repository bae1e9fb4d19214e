import itertools
import unittest

from lookdown.books import Book
from lookdown.errors import NoWeb, NoWishes, TooMany
from lookdown.plans import is_plan, needless, price
from lookdown.searching import cheapest
from lookdown.things import makeable, needs, ways
from lookdown.webs import Web
from tests.samples import CHAIN, EMPTY_WEB, MOVING, SHARED, STEPS, random_book, random_web, strange_objects
from tests.test_plans import NO_WEBS, NO_WISHES

# Values without parts lie in one kind alone, the others in two.
COUNTED = Book((0, 1), 2, ((0, (), 0, 3), (1, (0,), 0, 1), (1, (0,), 1, 2)), ())


def least_price(book, web, wishes):
    """The least price by trying all ways, or none, for all makeable things."""
    things = makeable(book, web)
    options = [[None, *ways(book, web, thing)] for thing in things]
    found = []
    for told in itertools.product(*options):
        left = {thing: way for thing, way in zip(things, told) if way is not None}
        makings = []
        made = set()
        while True:
            ready = [thing for thing in left if made.issuperset(needs(book, web, thing, left[thing]))]
            if not ready:
                break
            for thing in ready:
                makings.append((*thing, left.pop(thing)))
                made.add(thing)
        if not left and made.issuperset(wishes):
            found.append(price(book, web, tuple(makings)))
    return min(found)


class CheapestTest(unittest.TestCase):
    def check(self, book, web, wishes, least):
        told = cheapest(book, web, wishes)
        self.assertIsInstance(told, tuple)
        self.assertEqual(len(told), 2)
        self.assertEqual(told[0], least)
        self.assertTrue(is_plan(book, web, wishes, told[1]))
        self.assertEqual(price(book, web, told[1]), least)
        self.assertEqual(needless(book, web, wishes, told[1]), [])

    def too_many(self, book, web, wishes):
        with self.assertRaises(TooMany) as caught:
            cheapest(book, web, wishes)
        self.assertEqual(caught.exception.most, 14)

    def test_no_wishes(self):
        self.assertEqual(cheapest(CHAIN, STEPS, ()), (0, ()))
        self.assertEqual(cheapest(CHAIN, EMPTY_WEB, ()), (0, ()))

    def test_examples(self):
        self.check(CHAIN, STEPS, ((0, 0),), 1)
        self.check(CHAIN, STEPS, ((2, 2),), 4)
        self.check(CHAIN, STEPS, ((1, 1), (2, 2)), 5)
        self.check(CHAIN, STEPS, ((1, 0), (2, 2)), 4)
        self.check(CHAIN, STEPS, ((1, 0), (1, 1), (2, 2)), 6)

    def test_wishes_that_share(self):
        self.check(MOVING, SHARED, ((0, 0),), 3)
        self.check(MOVING, SHARED, ((0, 0), (0, 1)), 3)
        self.check(MOVING, SHARED, ((2, 1),), 3 + 4)
        self.check(MOVING, SHARED, ((2, 0), (2, 1)), 3 + 4 + 1)
        self.check(MOVING, SHARED, ((2, 0), (3, 0)), 3 + 4 + 1 + 4 + 1)

    def test_a_cheaper_way_behind_a_dearer_one(self):
        rules = ((0, (), 0, 1), (0, (), 1, 1), (1, (0, 0), 0, 9), (1, (0, 1), 0, 2), (1, (1, 0), 0, 4))
        book = Book((0, 2), 2, rules, ())
        web = Web(((0, ()), (1, (0, 0))))
        self.check(book, web, ((1, 0),), 1 + 1 + 2)
        self.check(book, web, ((0, 0), (1, 0)), 1 + 1 + 2)

    def test_against_all_ways(self):
        for seed in range(60):
            book = random_book(seed)
            web = random_web(seed, book, 3)
            things = makeable(book, web)
            if len(things) < 7:
                for many in range(min(3, len(things)) + 1):
                    for wishes in itertools.combinations(things, many):
                        self.check(book, web, wishes, least_price(book, web, wishes))

    def test_14_things_and_15(self):
        rows = ((0, ()),) * 14
        things = tuple((value, 0) for value in range(14))
        self.check(COUNTED, Web(rows), things, 14 * 3)
        more = Web(rows + ((0, ()), (1, (0,))))
        self.check(COUNTED, more, things, 14 * 3)
        self.too_many(COUNTED, more, things + ((14, 0),))
        self.check(COUNTED, more, things[1:13] + ((14, 0),), 13 * 3)
        self.check(COUNTED, more, things[:12] + ((15, 1),), 12 * 3 + 2)
        self.too_many(COUNTED, more, things[:13] + ((15, 1),))

    def test_a_chain_of_14_and_15(self):
        web = Web(((0, ()), (1, (0,)), *[(1, (k,)) for k in range(1, 9)]))
        self.check(COUNTED, web, ((6, 0),), 3 + 6)
        self.check(COUNTED, web, ((0, 0), (6, 1)), 3 + 5 + 2)
        self.too_many(COUNTED, web, ((7, 0),))
        self.too_many(COUNTED, web, ((0, 0), (9, 1)))

    def test_what_is_not_makeable_does_not_count(self):
        book = Book((0, 1), 5, ((0, (), 0, 1), (1, (0,), 0, 1), (1, (4,), 4, 1)), ((3, 4, 1), (4, 3, 1)))
        web = Web(((0, ()), *[(1, (k,)) for k in range(14)]))
        self.check(book, web, ((13, 0),), 14)
        self.too_many(book, web, ((14, 0),))

    def test_many_ways(self):
        rules = ((0, (), 0, 9),) + tuple((1, (a, b), kind, 1 + a + b) for a in range(5) for b in range(2) for kind in range(3))
        moves = tuple((source, kind, 1) for source in range(5) for kind in range(5) if source != kind)
        book = Book((0, 2), 5, rules, moves)
        web = Web(((0, ()), (1, (0, 0)), (0, ())))
        self.check(book, web, ((0, 4), (1, 3)), 9 + 1 + 1 + 1)
        self.too_many(book, web, ((1, 3), (2, 0)))

    def test_errors_in_their_order(self):
        for odd in NO_WEBS:
            with self.assertRaises(NoWeb):
                cheapest(CHAIN, odd, None)
        for odd in NO_WISHES:
            with self.assertRaises(NoWishes):
                cheapest(CHAIN, STEPS, odd)
        for odd in strange_objects():
            with self.assertRaises(NoWishes):
                cheapest(CHAIN, STEPS, ((0, 0), odd))
        web = Web(((0, ()),) * 15)
        things = tuple((value, 0) for value in range(15))
        with self.assertRaises(NoWishes):
            cheapest(COUNTED, web, things[::-1])
        with self.assertRaises(NoWishes):
            cheapest(COUNTED, web, things + ((15, 0),))


if __name__ == "__main__":
    unittest.main()
