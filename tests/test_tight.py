import itertools
import random
import unittest

from lookdown.books import Book
from lookdown.errors import NoKind, NoLimits, NoPlan, NoWeb, NoWishes, TooMany
from lookdown.plans import is_plan
from lookdown.scripts import is_script, script_price
from lookdown.searching import cheapest
from lookdown.things import makeable, needs
from lookdown.tight import fewest_held, free_limit, least_limit, tight
from lookdown.webs import Web
from tests.samples import (
    CHAIN,
    EMPTY_BOOK,
    EMPTY_WEB,
    MOVING,
    SHARED,
    STEPS,
    all_lots,
    random_book,
    random_web,
    strange_objects,
    usable,
)
from tests.test_judging import way_price
from tests.test_plans import BOTH, LEFT, NO_PLANS, NO_WEBS, NO_WISHES, leaves, row, some_plan
from tests.test_scripts import FREE, NO_LIMITS

# Leaves for 1 and sums for 1, all in one kind.
SUMS = Book((0, 2), 1, ((0, (), 0, 1), (1, (0, 0), 0, 1)), ())
# The first leaf is needed at both ends.
ENDS = Web(((0, ()), (0, ()), (1, (0, 1)), (0, ()), (1, (2, 3)), (1, (4, 0))))
PYRAMID = Web(((0, ()), (0, ()), (1, (0, 1)), (0, ()), (0, ()), (1, (3, 4)), (1, (2, 5))))


def told_price(book, web, wishes, limits):
    """The least price of a script, by going over all lots that can be held, with all that can be let go of."""
    things = makeable(book, web)
    options = [(thing, way, set(needs(book, web, thing, way))) for thing in things for way in usable(book, web, thing)]
    prices = {frozenset(): 0}
    left = {frozenset()}
    while left:
        now = min(left, key=lambda lot: prices[lot])
        left.remove(now)
        for thing, way, needed in options:
            if not now.issuperset(needed):
                continue
            for dropped in all_lots(now - needed):
                kept = now - set(dropped)
                then = kept | {thing}
                if thing in kept or not is_within(limits, then):
                    continue
                price = prices[now] + way_price(book, way)
                if then not in prices or price < prices[then]:
                    prices[then] = price
                    left.add(then)
    return min((price for lot, price in prices.items() if lot.issuperset(wishes)), default=None)


def is_within(limits, lot):
    counts = [len([thing for thing in lot if thing[1] == kind]) for kind in range(len(limits))]
    return all(limit is None or count <= limit for count, limit in zip(counts, limits))


def told_fewest(book, web, wishes, plan):
    """The least over all orders of a plan, by walking through each one."""
    found = []
    for order in itertools.permutations(plan):
        if not is_plan(book, web, wishes, order):
            continue
        now, most = set(), 0
        for at, (value, kind, _) in enumerate(order):
            now.add((value, kind))
            most = max(most, len(now))
            later = set(wishes)
            for each in order[at + 1:]:
                later.update(needs(book, web, each[:2], each[2]))
            now &= later
        found.append(most)
    return min(found)


class TightTest(unittest.TestCase):
    def check(self, book, web, wishes, limits, price):
        told = tight(book, web, wishes, limits)
        if price is None:
            self.assertIsNone(told)
        else:
            self.assertIsInstance(told, tuple)
            self.assertEqual(told[0], price)
            self.assertTrue(is_script(book, web, wishes, limits, told[1]))
            self.assertEqual(script_price(book, web, limits, told[1]), price)

    def test_example(self):
        self.check(CHAIN, STEPS, ((1, 1), (2, 2)), FREE, 5)

    def test_no_wishes(self):
        for limits in [FREE, (0, 0, 0)]:
            self.assertEqual(tight(CHAIN, STEPS, (), limits), (0, ()))
        self.assertEqual(tight(CHAIN, EMPTY_WEB, (), FREE), (0, ()))
        self.assertEqual(tight(EMPTY_BOOK, Web(((0, ()),)), (), (0,)), (0, ()))

    def test_limits_that_are_too_low(self):
        for limits, price in [
            ((2, 0, 1), 4),
            ((1, 0, 1), None),
            ((0, 2, 1), 5),
            ((1, 2, 1), 5),
            ((1, 1, 1), None),
            ((2, 2, 0), None),
            ((None, None, 1), 4),
        ]:
            self.check(CHAIN, STEPS, ((2, 2),), limits, price)

    def test_a_thing_that_is_made_twice(self):
        for limit, price in [(None, 6), (4, 6), (3, 7), (2, None)]:
            self.check(SUMS, ENDS, ((5, 0),), (limit,), price)
        told = tight(SUMS, ENDS, ((5, 0),), (3,))[1]
        self.assertEqual(len([making for making, _ in told if making[0] == 0]), 2)

    def test_a_making_twice_because_it_is_cheaper_than_another_way(self):
        # Either the leaf is made twice for 2, or what it gives comes by a rule for 50.
        rules = ((0, (), 0, 2), (1, (0,), 0, 1), (2, (0, 0), 0, 1), (2, (0, 1), 0, 1), (0, (), 1, 50))
        book = Book((0, 1, 2), 2, rules, ())
        web = Web(((0, ()), (1, (0,)), (1, (1,)), (2, (2, 0))))
        self.check(book, web, ((3, 0),), (3, 0), 5)
        self.check(book, web, ((3, 0),), (2, 0), None)
        # With a limit of 2 of the first kind the last value has no room beside both its parts.
        self.check(book, web, ((3, 0),), (2, 1), 2 + 1 + 1 + 50 + 1)

    def test_scripts_that_let_go(self):
        told = tight(SUMS, PYRAMID, ((6, 0),), (4,))
        self.check(SUMS, PYRAMID, ((6, 0),), (4,), 7)
        self.assertTrue(any(dropped for _, dropped in told[1]))
        self.check(SUMS, PYRAMID, ((6, 0),), (3,), None)
        self.check(SUMS, PYRAMID, ((2, 0), (5, 0), (6, 0)), (4,), 7)
        self.check(SUMS, PYRAMID, ((0, 0), (6, 0)), (4,), 7)
        self.check(SUMS, PYRAMID, ((0, 0), (3, 0), (6, 0)), (4,), 8)
        self.check(SUMS, PYRAMID, tuple((value, 0) for value in range(7)), (7,), 7)
        self.check(SUMS, PYRAMID, tuple((value, 0) for value in range(7)), (6,), None)

    def test_ten_things_and_more(self):
        web = leaves(11)[0]
        book = Book((0,), 1, ((0, (), 0, 1),), ())
        wishes = tuple((value, 0) for value in range(11))
        self.check(book, web, wishes[:10], (None,), 10)
        self.check(book, web, wishes[:10], (9,), None)
        for limits in [(None,), (0,)]:
            with self.assertRaises(TooMany) as caught:
                tight(book, web, wishes, limits)
            self.assertEqual(caught.exception.most, 10)
        # Things of other values do not count, all makeable ones of these do.
        self.check(book, leaves(200)[0], wishes[:3], (3,), 3)
        with self.assertRaises(TooMany):
            tight(CHAIN, Web(((0, ()),) * 6), tuple((value, 0) for value in range(6)), FREE)
        self.assertEqual(tight(CHAIN, Web(((0, ()),) * 6), tuple((value, 0) for value in range(5)), FREE)[0], 5)

    def test_against_all_lots(self):
        many = {True: 0, False: 0}
        dearer = 0
        for seed in range(250):
            dice = random.Random(seed)
            book = random_book(seed)
            web = random_web(seed, book, 4)
            things = makeable(book, web)
            if not 2 < len(things) < 8:
                continue
            wishes = tuple(sorted(dice.sample(things, dice.randint(1, 2))))
            for _ in range(3):
                limits = tuple(dice.choice((None, 0, 1, 2, 2, 3)) for _ in range(book.kinds))
                price = told_price(book, web, wishes, limits)
                self.check(book, web, wishes, limits, price)
                many[price is None] += 1
        self.assertGreater(min(many.values()), 50)

    def test_against_all_lots_of_sums(self):
        dearer = 0
        for seed in range(60):
            dice = random.Random(seed)
            web = random_web(seed, SUMS, 7)
            wishes = tuple(sorted({(6, 0), (dice.randrange(6), 0)}))
            least = cheapest(SUMS, web, wishes)[0]
            for limit in [2, 3, 4]:
                price = told_price(SUMS, web, wishes, (limit,))
                self.check(SUMS, web, wishes, (limit,), price)
                dearer += price is not None and price > least
        self.assertGreater(dearer, 5)

    def test_the_seventh_fact(self):
        for seed in range(80):
            book = random_book(seed)
            web = random_web(seed, book, 4)
            things = makeable(book, web)
            if len(things) > 10:
                continue
            for wish in things:
                wishes = (wish,)
                least = cheapest(book, web, wishes)[0]
                self.check(book, web, wishes, (None,) * book.kinds, least)
                last = None
                for limit in range(5):
                    told = tight(book, web, wishes, (limit,) * book.kinds)
                    if last is not None:
                        self.assertLessEqual(told[0], last)
                    last = last if told is None else told[0]
                    self.assertTrue(last is None or last >= least)

    def test_errors_in_their_order(self):
        web = Web(((0, ()),) * 6)
        for odd in NO_WEBS:
            with self.assertRaises(NoWeb):
                tight(CHAIN, odd, None, None)
        for odd in NO_WISHES:
            with self.assertRaises(NoWishes):
                tight(CHAIN, STEPS, odd, None)
        for odd in NO_LIMITS:
            with self.assertRaises(NoLimits):
                tight(CHAIN, STEPS, (), odd)
            with self.assertRaises(NoLimits):
                tight(CHAIN, web, tuple((value, 0) for value in range(6)), odd)
        with self.assertRaises(TooMany):
            tight(CHAIN, web, tuple((value, 0) for value in range(6)), (0, 0, 0))


class LimitTest(unittest.TestCase):
    def test_example(self):
        self.assertEqual(least_limit(CHAIN, STEPS, ((2, 2),), 0), 0)
        self.assertEqual(free_limit(CHAIN, STEPS, ((2, 2),), 0), 2)
        self.assertEqual([least_limit(CHAIN, STEPS, ((2, 2),), kind) for kind in range(3)], [0, 0, 1])
        self.assertEqual([free_limit(CHAIN, STEPS, ((2, 2),), kind) for kind in range(3)], [2, 0, 1])

    def test_no_wishes(self):
        for function in [least_limit, free_limit]:
            for kind in range(3):
                self.assertEqual(function(CHAIN, STEPS, (), kind), 0)
                self.assertEqual(function(CHAIN, EMPTY_WEB, (), kind), 0)

    def test_shapes(self):
        chain = Book((0, 1), 1, ((0, (), 0, 1), (1, (0,), 0, 1)), ())
        rows = Web(((0, ()),) + tuple((1, (k,)) for k in range(9)))
        for function in [least_limit, free_limit]:
            self.assertEqual(function(chain, rows, ((0, 0),), 0), 1)
            self.assertEqual(function(chain, rows, ((9, 0),), 0), 2)
            self.assertEqual(function(chain, rows, ((0, 0), (9, 0)), 0), 3 if function is free_limit else 2)
            self.assertEqual(function(SUMS, PYRAMID, ((2, 0),), 0), 3)
            self.assertEqual(function(SUMS, PYRAMID, ((6, 0),), 0), 4)

    def test_a_leaf_that_is_needed_at_both_ends(self):
        wishes = ((5, 0),)
        self.assertEqual((least_limit(SUMS, ENDS, wishes, 0), free_limit(SUMS, ENDS, wishes, 0)), (3, 4))

    def test_a_kind_of_which_nothing_is_needed(self):
        web = Web(((0, ()), (1, (0, 0))))
        for kind in [2, 3]:
            for function in [least_limit, free_limit]:
                self.assertEqual(function(MOVING, web, ((1, 0),), kind), 0)

    def test_ten_of_one_kind(self):
        book = Book((0,), 2, ((0, (), 0, 1),), ())
        web = leaves(11)[0]
        wishes = tuple((value, 0) for value in range(11))
        for function in [least_limit, free_limit]:
            self.assertEqual(function(book, web, wishes[:10], 0), 10)
            with self.assertRaises(TooMany) as caught:
                function(book, web, wishes, 0)
            self.assertEqual(caught.exception.most, 10)

    def test_against_tight(self):
        unlike = 0
        for seed in range(100):
            book = random_book(seed)
            web = random_web(seed, book, 4)
            things = makeable(book, web)
            if len(things) > 8:
                continue
            for wish in things[-3:]:
                least = cheapest(book, web, (wish,))[0]
                for kind in range(book.kinds):
                    told = []
                    for limit in range(11):
                        limits = tuple(limit if each == kind else None for each in range(book.kinds))
                        told.append(tight(book, web, (wish,), limits))
                    first = [limit for limit, each in enumerate(told) if each is not None][0]
                    freed = [limit for limit, each in enumerate(told) if each is not None and each[0] == least][0]
                    self.assertEqual(least_limit(book, web, (wish,), kind), first)
                    self.assertEqual(free_limit(book, web, (wish,), kind), freed)
                    unlike += first != freed
        self.assertGreater(unlike, 10)

    def test_errors_in_their_order(self):
        many = Web(((0, ()),) * 6)
        wishes = tuple((value, 0) for value in range(6))
        for function in [least_limit, free_limit]:
            for odd in NO_WEBS:
                with self.assertRaises(NoWeb):
                    function(CHAIN, odd, None, None)
            for odd in NO_WISHES:
                with self.assertRaises(NoWishes):
                    function(CHAIN, STEPS, odd, None)
            for odd in [-1, 3, True, False, "0", None, (0,), *strange_objects()]:
                with self.assertRaises(NoKind):
                    function(CHAIN, STEPS, ((2, 2),), odd)
                with self.assertRaises(NoKind):
                    function(CHAIN, many, wishes, odd)
            with self.assertRaises(TooMany) as caught:
                function(CHAIN, many, wishes, 0)
            self.assertEqual(caught.exception.most, 10)


class FewestTest(unittest.TestCase):
    def test_no_makings(self):
        self.assertEqual(fewest_held(CHAIN, STEPS, (), ()), 0)
        self.assertEqual(fewest_held(CHAIN, EMPTY_WEB, (), ()), 0)

    def test_shapes(self):
        self.assertEqual(fewest_held(CHAIN, STEPS, ((2, 2),), LEFT), 2)
        self.assertEqual(fewest_held(CHAIN, STEPS, (), LEFT), 2)
        self.assertEqual(fewest_held(CHAIN, STEPS, ((0, 0), (1, 0), (2, 2)), LEFT), 3)
        self.assertEqual(fewest_held(CHAIN, STEPS, ((0, 0), (1, 0), (2, 2)), BOTH), 3)
        pyramid = tuple((value, 0, ("rule", 1 if parts else 0)) for value, (_, parts) in enumerate(PYRAMID.rows))
        self.assertEqual(fewest_held(SUMS, PYRAMID, ((6, 0),), pyramid), 4)

    def test_an_order_that_is_better_than_the_one_passed(self):
        leaves_first = [making for value, making in enumerate(PYRAMID.rows)]
        plan = tuple((value, 0, ("rule", 0)) for value, (_, parts) in enumerate(leaves_first) if not parts)
        plan = plan + tuple((value, 0, ("rule", 1)) for value, (_, parts) in enumerate(leaves_first) if parts)
        self.assertEqual(fewest_held(SUMS, PYRAMID, ((6, 0),), plan), 4)
        # What is neither wished nor needed is let go of at once, so it is best made first or last.
        rows = Web(((0, ()), (0, ()), (0, ()), (1, (0, 1))))
        plan = ((0, 0, ("rule", 0)), (1, 0, ("rule", 0)), (2, 0, ("rule", 0)), (3, 0, ("rule", 1)))
        self.assertEqual(fewest_held(SUMS, rows, ((3, 0),), plan), 3)
        self.assertEqual(fewest_held(SUMS, rows, (), plan[:3]), 1)
        self.assertEqual(fewest_held(SUMS, rows, ((2, 0),), plan[:3]), 1)

    def test_what_is_needed_is_counted_with_what_is_made(self):
        web, plan = row(12)
        book = Book((0, 1, 2), 2, ((0, (), 0, 1), (0, (), 1, 2), (1, (0,), 0, 4), (2, (0, 0), 0, 8)), ())
        self.assertEqual(fewest_held(book, web, ((11, 0),), plan), 2)
        self.assertEqual(fewest_held(book, web, (), plan[:1]), 1)

    def test_12_makings_and_more(self):
        book = Book((0, 1, 2), 2, ((0, (), 0, 1), (0, (), 1, 2), (1, (0,), 0, 4), (2, (0, 0), 0, 8)), ())
        for web, plan in [leaves(12), row(12)]:
            wishes = tuple(making[:2] for making in plan)
            self.assertEqual(fewest_held(book, web, wishes, plan), 12)
        for web, plan in [leaves(13), row(13), leaves(200)]:
            for wishes in [(), ((3, 0),)]:
                with self.assertRaises(TooMany) as caught:
                    fewest_held(book, web, wishes, plan)
                self.assertEqual(caught.exception.most, 12)
            with self.assertRaises(NoPlan):
                fewest_held(book, web, (), plan + plan[:1])

    def test_against_all_orders(self):
        better = 0
        for seed in range(60):
            dice = random.Random(seed)
            book = random_book(seed)
            web = random_web(seed, book, 5)
            plan = some_plan(book, web)[:6]
            things = sorted(making[:2] for making in plan)
            wishes = tuple(sorted(dice.sample(things, min(len(things), dice.randint(0, 2)))))
            told = told_fewest(book, web, wishes, plan)
            self.assertEqual(fewest_held(book, web, wishes, plan), told)
            better += 0 < told < len(plan)
        self.assertGreater(better, 20)

    def test_errors_in_their_order(self):
        for odd in NO_WEBS:
            with self.assertRaises(NoWeb):
                fewest_held(CHAIN, odd, None, None)
        for odd in NO_WISHES:
            with self.assertRaises(NoWishes):
                fewest_held(CHAIN, STEPS, odd, None)
        for odd in NO_PLANS:
            with self.assertRaises(NoPlan):
                fewest_held(CHAIN, STEPS, (), odd)
        for plan in [(), LEFT[:2]]:
            with self.assertRaises(NoPlan):
                fewest_held(CHAIN, STEPS, ((2, 2),), plan)
        self.assertEqual(fewest_held(MOVING, SHARED, (), ()), 0)


if __name__ == "__main__":
    unittest.main()
