import copy
import itertools
import math
import unittest
from fractions import Fraction

from lookdown.alone import own
from lookdown.books import Book
from lookdown.choices import cost, needed
from lookdown.errors import NoChoice, NoWeb, NoWishes, TooMany
from lookdown.judging import beaten, is_best
from lookdown.searching import cheapest
from lookdown.sharing import leavers, shares
from lookdown.things import makeable
from lookdown.webs import Web
from tests.samples import (
    CHAIN,
    DOUBLES,
    DOUBLING,
    EMPTY_WEB,
    MOVING,
    PAIR,
    SHARED,
    STEPS,
    STEPS_OWN,
    TWICE,
    all_choices,
    all_lots,
    all_needed,
    random_book,
    random_web,
)
from tests.test_choices import NO_CHOICES, ROUND, ROUND_WAYS, ROUND_WEB
from tests.test_judging import chain, way_price
from tests.test_plans import NO_WEBS, NO_WISHES
from tests.test_searching import COUNTED

# A leaf for 3 and three values made of it for 1 each.
FAN = Web(((0, ()), (1, (0,)), (1, (0,)), (1, (0,))))
FAN_OWN = own(COUNTED, FAN)
LEAVES = Web(((0, ()),) * 15)


def told_shares(book, web, choice, wishes):
    """The shares as Fractions, thing by thing."""
    told = {wish: Fraction(0) for wish in wishes}
    for thing in choice:
        users = [wish for wish in wishes if thing in all_needed(book, web, choice, wish)]
        for wish in users:
            told[wish] += Fraction(way_price(book, choice[thing]), len(users))
    return told


def told_leavers(book, web, choice, wishes):
    """The first of all lots that some plan makes for less than its shares."""
    paid = told_shares(book, web, choice, wishes)
    for many in range(1, len(wishes) + 1):
        for lot in itertools.combinations(wishes, many):
            if cheapest(book, web, lot)[0] < sum(paid[wish] for wish in lot):
                return lot
    return None


class SharesTest(unittest.TestCase):
    def test_no_wishes_and_one(self):
        self.assertEqual(shares(CHAIN, STEPS, STEPS_OWN, ()), {})
        self.assertEqual(shares(CHAIN, EMPTY_WEB, {}, ()), {})
        self.assertEqual(shares(CHAIN, STEPS, STEPS_OWN, ((0, 0),)), {(0, 0): (1, 1)})
        self.assertEqual(shares(CHAIN, STEPS, STEPS_OWN, ((2, 2),)), {(2, 2): (4, 1)})

    def test_needed_by_two_three_and_all(self):
        two = shares(COUNTED, FAN, FAN_OWN, ((1, 0), (2, 0)))
        self.assertEqual(two, {(1, 0): (5, 2), (2, 0): (5, 2)})
        three = shares(COUNTED, FAN, FAN_OWN, ((1, 0), (2, 0), (3, 0)))
        self.assertEqual(three, {(1, 0): (2, 1), (2, 0): (2, 1), (3, 0): (2, 1)})
        four = shares(COUNTED, FAN, FAN_OWN, ((0, 0), (1, 0), (2, 0), (3, 1)))
        self.assertEqual(four, {(0, 0): (3, 4), (1, 0): (7, 4), (2, 0): (7, 4), (3, 1): (11, 4)})

    def test_lowest_terms(self):
        six = shares(COUNTED, FAN, FAN_OWN, tuple((k, kind) for k in (1, 2, 3) for kind in (0, 1)))
        self.assertEqual(six, {(k, kind): ((3, 2), (5, 2))[kind] for k in (1, 2, 3) for kind in (0, 1)})

    def test_unlike_parts(self):
        # The leaf is needed by three, the value of the first by two.
        web = Web(((0, ()), (1, (0,)), (1, (1,)), (1, (0,))))
        told = shares(COUNTED, web, own(COUNTED, web), ((1, 0), (2, 0), (3, 0)))
        self.assertEqual(told, {(1, 0): (3, 2), (2, 0): (5, 2), (3, 0): (2, 1)})

    def test_a_wish_that_another_wish_needs(self):
        told = shares(CHAIN, STEPS, STEPS_OWN, ((0, 0), (1, 0), (2, 2)))
        self.assertEqual(told, {(0, 0): (1, 3), (1, 0): (5, 6), (2, 2): (17, 6)})

    def test_against_fractions(self):
        for seed in range(60):
            book = random_book(seed)
            web = random_web(seed, book, 6)
            for choice in [own(book, web), *all_choices(book, web, 60)[:5]]:
                wishes = tuple(sorted(choice))[seed % 2 :: 1 + seed % 3]
                told = shares(book, web, choice, wishes)
                self.assertEqual(tuple(told), wishes)
                right = told_shares(book, web, choice, wishes)
                for wish, (top, bottom) in told.items():
                    self.assertEqual((top, bottom), (right[wish].numerator, right[wish].denominator))
                    self.assertEqual(math.gcd(top, bottom), 1)
                total = sum(Fraction(*share) for share in told.values())
                self.assertEqual(total, cost(book, web, choice, wishes))

    def test_one_wish_more_raises_nobodys_share(self):
        for seed in range(40):
            book = random_book(seed)
            web = random_web(seed, book, 6)
            choice = own(book, web)
            for wishes in all_lots(sorted(choice)[-5:]):
                told = shares(book, web, choice, wishes)
                for left_out in wishes:
                    fewer = tuple(wish for wish in wishes if wish != left_out)
                    for wish, share in shares(book, web, choice, fewer).items():
                        self.assertLessEqual(Fraction(*told[wish]), Fraction(*share))

    def test_a_chain_of_200(self):
        choice = own(DOUBLING, DOUBLES)
        told = shares(DOUBLING, DOUBLES, choice, tuple(sorted(choice)))
        self.assertEqual(sum(Fraction(*share) for share in told.values()), 200)
        self.assertEqual(told[(0, 0)], (1, 200))
        self.assertEqual(told[(1, 0)], (399, 39800))

    def test_errors_in_their_order(self):
        for odd in NO_WEBS:
            with self.assertRaises(NoWeb):
                shares(CHAIN, odd, None, None)
        for odd in NO_CHOICES:
            with self.assertRaises(NoChoice):
                shares(CHAIN, STEPS, odd, None)
        with self.assertRaises(NoChoice):
            shares(ROUND, ROUND_WEB, ROUND_WAYS, ())
        for odd in NO_WISHES:
            with self.assertRaises(NoWishes):
                shares(CHAIN, STEPS, STEPS_OWN, odd)

    def test_nothing_is_changed(self):
        told = copy.deepcopy(STEPS_OWN)
        shares(CHAIN, STEPS, told, ((2, 2),)).clear()
        leavers(CHAIN, STEPS, told, ((2, 2),))
        self.assertEqual(list(told.items()), list(STEPS_OWN.items()))
        self.assertEqual(len(shares(CHAIN, STEPS, told, ((2, 2),))), 1)


class LeaversTest(unittest.TestCase):
    def too_many(self, most, *told):
        with self.assertRaises(TooMany) as caught:
            leavers(*told)
        self.assertEqual(caught.exception.most, most)

    def test_nobody_leaves_a_best_choice(self):
        for wishes in all_lots(STEPS_OWN):
            self.assertIsNone(leavers(chain(4), STEPS, STEPS_OWN, wishes))
        for wishes in all_lots([(k, 0) for k in range(4)]):
            self.assertIsNone(leavers(COUNTED, FAN, FAN_OWN, wishes))
        self.assertIsNone(leavers(CHAIN, EMPTY_WEB, {}, ()))

    def test_the_wishes_of_beaten(self):
        wishes = beaten(CHAIN, STEPS, STEPS_OWN)[0]
        self.assertEqual(leavers(CHAIN, STEPS, STEPS_OWN, wishes), wishes)
        choice = {(0, 0): ("rule", 0), (0, 1): ("rule", 1), (1, 0): ("rule", 3)}
        wishes = beaten(TWICE, PAIR, choice)[0]
        self.assertEqual(wishes, ((0, 0), (1, 0)))
        # The pair by itself is dearer by this choice than it need be.
        self.assertEqual(leavers(TWICE, PAIR, choice, wishes), ((1, 0),))

    def test_nobody_leaves_where_the_wishes_do_not_tell(self):
        self.assertIsNone(leavers(CHAIN, STEPS, STEPS_OWN, ((2, 2),)))
        self.assertIsNone(leavers(CHAIN, STEPS, STEPS_OWN, ((1, 0), (2, 2))))

    def test_the_least_lot(self):
        # Two values each of which is dear by itself: the first one alone leaves.
        web = Web(PAIR.rows + ((1, (0, 0)),))
        choice = {(0, 0): ("rule", 0), (0, 1): ("rule", 1), (1, 0): ("rule", 3), (2, 0): ("rule", 3)}
        self.assertEqual(leavers(TWICE, web, choice, ((2, 0),)), ((2, 0),))
        # Together they share both leaves: 8 + 7 each, and 15 by one leaf is not less.
        self.assertEqual(leavers(TWICE, web, choice, ((1, 0), (2, 0))), ((1, 0), (2, 0)))
        self.assertEqual(leavers(TWICE, web, choice, ((0, 0), (1, 0), (2, 0))), ((0, 0), (1, 0)))
        self.assertEqual(leavers(TWICE, web, choice, ((0, 1), (1, 0))), ((1, 0),))

    def test_against_all_lots(self):
        sizes = {}
        for seed in range(150):
            book = random_book(seed)
            web = random_web(seed, book, 4)
            things = makeable(book, web)
            if len(things) > 8:
                continue
            for choice in [own(book, web), *all_choices(book, web, 40)[-3:]]:
                for wishes in [things[:5], things[-4:], things[1::2]]:
                    told = leavers(book, web, choice, wishes)
                    self.assertEqual(told, told_leavers(book, web, choice, wishes))
                    sizes[told and len(told)] = sizes.get(told and len(told), 0) + 1
        self.assertTrue(sizes[None] > 20 and sizes[1] > 20 and sizes[2] > 2, sizes)

    def test_the_fourth_fact(self):
        for seed in range(80):
            book = random_book(seed)
            web = random_web(seed, book, 4)
            things = makeable(book, web)
            if len(things) > 8:
                continue
            for choice in all_choices(book, web, 40)[:5]:
                if is_best(book, web, choice):
                    for wishes in all_lots(things[-4:]):
                        self.assertIsNone(leavers(book, web, choice, wishes))
                else:
                    wishes = beaten(book, web, choice)[0]
                    self.assertIsNotNone(leavers(book, web, choice, wishes))
                    paid = sum(Fraction(*share) for share in shares(book, web, choice, wishes).values())
                    self.assertLess(cheapest(book, web, wishes)[0], paid)

    def test_10_wishes_and_11(self):
        choice = own(COUNTED, LEAVES)
        things = tuple(sorted(choice))
        self.assertIsNone(leavers(COUNTED, LEAVES, choice, things[:10]))
        self.too_many(10, COUNTED, LEAVES, choice, things[:11])
        self.too_many(10, COUNTED, LEAVES, choice, things)

    def test_10_wishes_ahead_of_14_things(self):
        web = Web(((0, ()),) + tuple((1, (k,)) for k in range(14)))
        choice = own(COUNTED, web)
        self.too_many(10, COUNTED, web, choice, tuple(sorted(choice))[-11:])
        self.too_many(14, COUNTED, web, choice, tuple(sorted(choice))[-10:])

    def test_14_things_and_15(self):
        web = Web(((0, ()), (0, ())) + tuple((1, (k + 1,)) for k in range(7)))
        choice = own(COUNTED, web)
        self.assertEqual(len(choice), 2 + 2 * 7)
        self.assertIsNone(leavers(COUNTED, web, choice, ((0, 0), (7, 1))))
        self.assertIsNone(leavers(COUNTED, web, choice, ((7, 0), (7, 1))))
        self.too_many(14, COUNTED, web, choice, ((8, 0),))
        rows = Web(web.rows[:8] + ((0, ()),))
        told = own(COUNTED, rows)
        self.assertIsNone(leavers(COUNTED, rows, told, ((0, 0), (7, 1))))
        self.too_many(14, COUNTED, rows, told, ((0, 0), (7, 1), (8, 0)))

    def test_10_wishes_of_14_things(self):
        rules = ((0, (), 0, 9), (0, (), 1, 9), (1, (0,), 0, 3), (1, (1,), 1, 9), (1, (0,), 1, 5))
        book = Book((0, 1), 2, rules, ())
        web = Web(((0, ()),) + tuple((1, (k,)) for k in range(6)))
        wishes = tuple((k, kind) for k in range(2, 7) for kind in (0, 1))
        choice = {(k, 0): ("rule", 2) for k in range(1, 7)}
        choice.update({(k, 1): ("rule", 3) for k in range(1, 7)})
        choice.update({(0, 0): ("rule", 0), (0, 1): ("rule", 1)})
        told = leavers(book, web, choice, wishes)
        paid = told_shares(book, web, choice, wishes)
        self.assertEqual(told, ((4, 1), (6, 1)))
        for many in [1, 2]:
            for lot in itertools.combinations(wishes, many):
                if (many, lot) <= (len(told), told):
                    leave = cheapest(book, web, lot)[0] < sum(paid[wish] for wish in lot)
                    self.assertEqual(leave, lot == told)

    def test_errors_in_their_order(self):
        for odd in NO_WEBS:
            with self.assertRaises(NoWeb):
                leavers(CHAIN, odd, None, None)
        for odd in NO_CHOICES:
            with self.assertRaises(NoChoice):
                leavers(CHAIN, STEPS, odd, None)
        with self.assertRaises(NoChoice):
            leavers(ROUND, ROUND_WEB, ROUND_WAYS, ())
        for odd in NO_WISHES:
            with self.assertRaises(NoWishes):
                leavers(CHAIN, STEPS, STEPS_OWN, odd)
        choice = own(COUNTED, LEAVES)
        for wishes in [tuple(sorted(choice))[::-1], tuple((k, 0) for k in range(16))]:
            with self.assertRaises(NoWishes):
                leavers(COUNTED, LEAVES, choice, wishes)

    def test_moves(self):
        choice = own(MOVING, SHARED)
        wishes = ((0, 0), (0, 1), (2, 0), (3, 1))
        self.assertEqual(leavers(MOVING, SHARED, choice, wishes), told_leavers(MOVING, SHARED, choice, wishes))
        self.assertEqual(len(needed(MOVING, SHARED, choice, wishes)), 5)


if __name__ == "__main__":
    unittest.main()
