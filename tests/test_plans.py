import itertools
import unittest

from lookdown.books import Book
from lookdown.errors import NoPlan, NoWeb, NoWishes, TooMany
from lookdown.plans import is_plan, needless, orders, price
from lookdown.things import makeable, needs, ways
from lookdown.webs import Web
from tests.samples import (
    CHAIN,
    EMPTY_WEB,
    MOVING,
    SHARED,
    STEPS,
    random_book,
    random_web,
    strange_objects,
    strange_tuples,
)

LEFT = ((0, 0, ("rule", 0)), (1, 0, ("rule", 2)), (2, 2, ("rule", 4)))
RIGHT = ((0, 1, ("rule", 1)), (1, 1, ("rule", 3)), (2, 2, ("rule", 5)))
BOTH = LEFT[:2] + RIGHT
NO_WEBS = [Web(((3, ()),)), SHARED, STEPS.rows, CHAIN, *strange_objects()]
NO_WISHES = [
    [],
    [(0, 0)],
    (0, 0),
    ((0, 0), (0, 0)),
    ((0, 1), (0, 0)),
    ((1, 0), (0, 1)),
    ((0, 0), (1, 0), (0, 1)),
    ((0, 2),),
    ((0, 0), (2, 0)),
    ((3, 0),),
    ((0, 3),),
    ((-1, 0),),
    ((0, 0, 0),),
    ((0,),),
    ([0, 0],),
    ((False, 0),),
    ((0, False),),
    ((0, True),),
    ("00",),
    {},
    {(0, 0): True},
    *[odd for odd in strange_objects() + strange_tuples() if odd != ()],
]
NO_PLANS = [
    [],
    list(LEFT),
    LEFT[1:],
    LEFT[::-1],
    (LEFT[0], LEFT[2]),
    (LEFT[1], LEFT[0]),
    LEFT + LEFT[:1],
    (LEFT[0], LEFT[0]),
    LEFT + (None,),
    LEFT[0],
    (LEFT,),
    ((0, 0),),
    ((0, 0, ("rule", 0), 0),),
    (((0, 0), ("rule", 0)),),
    ([0, 0, ("rule", 0)],),
    ((0, 0, ["rule", 0]),),
    ((0, 0, ("rule", 1)),),
    ((0, 0, ("rule", False)),),
    ((0, 0, ("rule", 6)),),
    ((0, 0, ("move", 0)),),
    ((0, False, ("rule", 0)),),
    ((False, 0, ("rule", 0)),),
    ((3, 0, ("rule", 0)),),
    ((0, 2, ("rule", 0)),),
    ((0, 3, ("rule", 0)),),
    *[odd for odd in strange_objects() + strange_tuples() if odd != ()],
]
STRANGE_IN_MAKINGS = [
    (LEFT[0], making)
    for odd in strange_objects()
    for making in [(1, 0, odd), (1, odd, ("rule", 2)), (odd, 0, ("rule", 2)), (1, 0, ("rule", odd)), (1, 0, (odd, 2))]
    if making != LEFT[1]
]

WIDE = Book((0, 1, 2), 2, ((0, (), 0, 1), (0, (), 1, 2), (1, (0,), 0, 4), (2, (0, 0), 0, 8)), ())


def leaves(many):
    """A web of values without parts, and the makings of all of them."""
    return (Web(((0, ()),) * many), tuple((value, 0, ("rule", 0)) for value in range(many)))


def row(many):
    """A web in which each value is made of the one ahead, and the makings of all of them."""
    web = Web(((0, ()),) + tuple((1, (k,)) for k in range(many - 1)))
    return (web, ((0, 0, ("rule", 0)),) + tuple((k, 0, ("rule", 2)) for k in range(1, many)))


def some_plan(book, web):
    """A plan of all makeable things, each by the first way that can be done then."""
    makings = []
    while len(makings) < len(makeable(book, web)):
        made = {making[:2] for making in makings}
        for thing in makeable(book, web):
            usable = [way for way in ways(book, web, thing) if made.issuperset(needs(book, web, thing, way))]
            if thing not in made and usable:
                makings.append((*thing, usable[0]))
                break
    return tuple(makings)


class IsPlanTest(unittest.TestCase):
    def test_plans(self):
        for wishes, plan in [
            ((), ()),
            ((), LEFT[:1]),
            ((), LEFT),
            (((0, 0),), LEFT[:1]),
            (((2, 2),), LEFT),
            (((2, 2),), RIGHT),
            (((2, 2),), BOTH),
            (((1, 0), (1, 1), (2, 2)), BOTH),
            (((0, 0), (0, 1)), (RIGHT[0], LEFT[0])),
        ]:
            self.assertIs(is_plan(CHAIN, STEPS, wishes, plan), True)

    def test_a_wish_that_is_not_made(self):
        self.assertIs(is_plan(CHAIN, STEPS, ((0, 0),), ()), False)
        self.assertIs(is_plan(CHAIN, STEPS, ((1, 1), (2, 2)), LEFT), False)
        self.assertIs(is_plan(CHAIN, STEPS, ((2, 2),), LEFT[:2]), False)

    def test_no_plans(self):
        for odd in NO_PLANS + STRANGE_IN_MAKINGS:
            self.assertIs(is_plan(CHAIN, STEPS, (), odd), False)

    def test_moves_and_rings(self):
        ring = ((0, 3, ("move", 2)), (0, 2, ("move", 3)))
        moved = ((0, 1, ("rule", 1)), (0, 0, ("move", 1)))
        self.assertIs(is_plan(MOVING, SHARED, (), ring), False)
        self.assertIs(is_plan(MOVING, SHARED, ((0, 0),), moved), True)
        self.assertIs(is_plan(MOVING, SHARED, ((0, 0),), moved[::-1]), False)
        self.assertIs(is_plan(MOVING, SHARED, (), moved + ((0, 1, ("move", 0)),)), False)
        both = moved + ((2, 0, ("rule", 2)), (2, 1, ("rule", 3)))
        self.assertIs(is_plan(MOVING, SHARED, ((2, 0), (2, 1)), both), True)

    def test_errors_in_their_order(self):
        for odd in NO_WEBS:
            with self.assertRaises(NoWeb):
                is_plan(CHAIN, odd, None, None)
        for odd in NO_WISHES:
            with self.assertRaises(NoWishes):
                is_plan(CHAIN, STEPS, odd, LEFT)
        with self.assertRaises(NoWishes):
            is_plan(CHAIN, EMPTY_WEB, ((0, 0),), ())

    def test_wishes_that_only_a_ring_gives(self):
        with self.assertRaises(NoWishes):
            is_plan(MOVING, SHARED, ((0, 2),), ())


class PriceTest(unittest.TestCase):
    def test_prices(self):
        self.assertEqual(price(CHAIN, STEPS, ()), 0)
        self.assertEqual(price(CHAIN, STEPS, LEFT), 4)
        self.assertEqual(price(CHAIN, STEPS, RIGHT), 5)
        self.assertEqual(price(CHAIN, STEPS, BOTH), 7)
        moved = ((0, 1, ("rule", 1)), (0, 0, ("move", 1)), (2, 0, ("rule", 2)))
        self.assertEqual(price(MOVING, SHARED, moved), 2 + 1 + 7)

    def test_errors_in_their_order(self):
        for odd in NO_WEBS:
            with self.assertRaises(NoWeb):
                price(CHAIN, odd, None)
        for odd in NO_PLANS + STRANGE_IN_MAKINGS:
            with self.assertRaises(NoPlan):
                price(CHAIN, STEPS, odd)


class NeedlessTest(unittest.TestCase):
    def test_examples(self):
        self.assertEqual(needless(CHAIN, STEPS, (), ()), [])
        self.assertEqual(needless(CHAIN, STEPS, ((2, 2),), LEFT), [])
        self.assertEqual(needless(CHAIN, STEPS, ((2, 2),), BOTH), [LEFT[0], LEFT[1]])
        self.assertEqual(needless(CHAIN, STEPS, ((1, 0), (2, 2)), BOTH), [])
        self.assertEqual(needless(CHAIN, STEPS, ((0, 0), (2, 2)), BOTH), [LEFT[1]])

    def test_needless_makings_of_needless_makings(self):
        self.assertEqual(needless(CHAIN, STEPS, (), LEFT), list(LEFT))
        self.assertEqual(needless(CHAIN, STEPS, ((0, 0),), LEFT), list(LEFT[1:]))

    def test_the_list_ascends(self):
        mixed = (RIGHT[0], LEFT[0], RIGHT[1], LEFT[1])
        self.assertEqual(needless(CHAIN, STEPS, (), mixed), [LEFT[0], RIGHT[0], LEFT[1], RIGHT[1]])

    def test_the_ways_in_the_plan_count(self):
        moved = ((0, 1, ("rule", 1)), (0, 0, ("move", 1)))
        self.assertEqual(needless(MOVING, SHARED, ((0, 0),), moved), [])
        ruled = ((0, 1, ("rule", 1)), (0, 0, ("rule", 0)))
        self.assertEqual(needless(MOVING, SHARED, ((0, 0),), ruled), [ruled[0]])

    def test_leaving_them_out_leaves_a_plan(self):
        for seed in range(40):
            book = random_book(seed)
            web = random_web(seed, book, 5)
            plan = some_plan(book, web)
            for wish in makeable(book, web):
                left_out = needless(book, web, (wish,), plan)
                kept = [making for making in plan if making not in left_out]
                self.assertTrue(is_plan(book, web, (wish,), tuple(kept)))
                for making in kept:
                    fewer = tuple(each for each in kept if each != making)
                    self.assertFalse(is_plan(book, web, (wish,), fewer))

    def test_errors_in_their_order(self):
        for odd in NO_WEBS:
            with self.assertRaises(NoWeb):
                needless(CHAIN, odd, None, None)
        for odd in NO_WISHES:
            with self.assertRaises(NoWishes):
                needless(CHAIN, STEPS, odd, None)
        for odd in NO_PLANS:
            with self.assertRaises(NoPlan):
                needless(CHAIN, STEPS, (), odd)
        for plan in [(), LEFT[:2], RIGHT[:2]]:
            with self.assertRaises(NoPlan):
                needless(CHAIN, STEPS, ((2, 2),), plan)


class OrdersTest(unittest.TestCase):
    def test_examples(self):
        self.assertEqual(orders(CHAIN, STEPS, ()), 1)
        self.assertEqual(orders(CHAIN, STEPS, LEFT), 1)
        self.assertEqual(orders(CHAIN, STEPS, (LEFT[0], RIGHT[0])), 2)
        self.assertEqual(orders(CHAIN, STEPS, BOTH), 10)

    def test_makings_that_need_nothing(self):
        for many, count in [(1, 1), (2, 2), (5, 120), (12, 479001600)]:
            self.assertEqual(orders(WIDE, *leaves(many)), count)

    def test_a_chain(self):
        for many in [1, 2, 12]:
            self.assertEqual(orders(WIDE, *row(many)), 1)

    def test_too_many(self):
        for web, plan in [leaves(13), row(13), leaves(200)]:
            with self.assertRaises(TooMany) as caught:
                orders(WIDE, web, plan)
            self.assertEqual(caught.exception.most, 12)

    def test_no_plan_comes_ahead_of_too_many(self):
        web, plan = row(13)
        for wrong in [plan[::-1], plan + plan[:1], list(plan), plan + (None,)]:
            with self.assertRaises(NoPlan):
                orders(WIDE, web, wrong)

    def test_errors_in_their_order(self):
        for odd in NO_WEBS:
            with self.assertRaises(NoWeb):
                orders(CHAIN, odd, None)
        for odd in NO_PLANS + STRANGE_IN_MAKINGS:
            with self.assertRaises(NoPlan):
                orders(CHAIN, STEPS, odd)

    def test_against_all_orders(self):
        for seed in range(40):
            book = random_book(seed)
            web = random_web(seed, book, 4)
            plan = some_plan(book, web)[:6]
            right = [each for each in itertools.permutations(plan) if is_plan(book, web, (), each)]
            self.assertEqual(orders(book, web, plan), len(right))


if __name__ == "__main__":
    unittest.main()
