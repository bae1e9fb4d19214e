import itertools
import random
import unittest

from lookdown.alone import own
from lookdown.books import Book
from lookdown.choices import cost
from lookdown.errors import NoChoice, NotBest, NoWeb
from lookdown.fences import fences_of, floor, is_fences
from lookdown.finding import best, stand_ins
from lookdown.judging import is_best
from lookdown.searching import cheapest
from lookdown.things import makeable
from lookdown.webs import Web
from tests.samples import (
    ALIKE,
    CHAIN,
    DOUBLES,
    DOUBLING,
    EMPTY_BOOK,
    EMPTY_WEB,
    MOVING,
    PAIR,
    SHARED,
    STEPS,
    STEPS_OWN,
    TWICE,
    all_choices,
    all_lots,
    all_needed,
    random_book,
    random_web,
    strange_objects,
    usable,
)
from tests.test_choices import NO_CHOICES, ROUND, ROUND_WAYS, ROUND_WEB
from tests.test_judging import chain, way_price
from tests.test_plans import NO_WEBS

LEAF = Web(((0, ()),))
ALIKE_BEST = {(0, 0): ("rule", 0), (0, 1): ("move", 0), (1, 0): ("rule", 1), (1, 1): ("move", 0)}
BOOKS_OF_ONE_PRICE = [
    Book((0,), 3, ((0, (), 0, 2), (0, (), 1, 2)), ((0, 2, 1), (1, 2, 1))),
    Book((0,), 4, ((0, (), 0, 2),), ((0, 1, 1), (0, 2, 1), (1, 3, 1), (2, 3, 1))),
    Book((0,), 3, ((0, (), 0, 1),), ((0, 1, 1), (1, 2, 1), (0, 2, 1), (2, 0, 1), (2, 1, 1), (1, 0, 1))),
    Book((0,), 3, tuple((0, (), kind, 1) for kind in range(3)), ((0, 1, 1), (1, 2, 1), (2, 0, 1))),
    Book((0,), 3, tuple((0, (), kind, 2) for kind in range(3)), ((0, 1, 1), (1, 2, 1), (2, 0, 1))),
]


def least_ways(choices):
    """Of some choices the least way for each thing, None for no choices."""
    if not choices:
        return None
    return {thing: min(choice[thing] for choice in choices) for thing in choices[0]}


def all_best(book, web):
    """All best choices, grown value by value, for what is best for a web is so for its first values."""
    found = [{}]
    for many in range(1, len(web.rows) + 1):
        part = Web(web.rows[:many])
        things = [thing for thing in makeable(book, part) if thing[0] == many - 1]
        grown = []
        for told in itertools.product(*[usable(book, part, thing) for thing in things]):
            for choice in found:
                more = {**choice, **dict(zip(things, told))}
                if is_best(book, part, more):
                    grown.append(more)
        found = grown
    return found


def alike_book(seed):
    """A book of few prices, in which ways of a value with the same part twice often come to the same."""
    dice = random.Random(seed)
    rules = {(0, (), 0): 1}
    for _ in range(6):
        rules[(1, (dice.randrange(3), dice.randrange(3)), 0)] = 3 if dice.randrange(4) else 4
    moves = {(0, 1): 1, (1, 2): 1}
    told = tuple((*key, told) for key, told in rules.items())
    return Book((0, 2), 3, told, tuple((*key, told) for key, told in moves.items()))


class BestTest(unittest.TestCase):
    def test_examples(self):
        self.assertIsNone(best(CHAIN, STEPS))
        self.assertEqual(best(chain(4), STEPS), STEPS_OWN)
        self.assertEqual(best(CHAIN, Web(STEPS.rows[:2])), {k: STEPS_OWN[k] for k in sorted(STEPS_OWN)[:4]})

    def test_no_makeable_things(self):
        for book, web in [(CHAIN, EMPTY_WEB), (EMPTY_BOOK, LEAF), (EMPTY_BOOK, EMPTY_WEB)]:
            self.assertEqual(best(book, web), {})

    def test_one_that_is_not_the_own_one(self):
        choice = {(0, 0): ("rule", 0), (0, 1): ("rule", 1), (1, 0): ("rule", 2)}
        self.assertEqual(best(TWICE, PAIR), choice)
        self.assertNotEqual(own(TWICE, PAIR), choice)

    def test_the_least_of_those_that_could_stand_for_one_another(self):
        self.assertEqual(best(ALIKE, PAIR), ALIKE_BEST)
        web = Web(PAIR.rows + ((1, (1, 1)), (1, (1, 0)), (1, (2, 2))))
        right = all_best(ALIKE, web)
        self.assertEqual(best(ALIKE, web), least_ways(right))
        self.assertIs(is_best(ALIKE, web, least_ways(right)), True)
        self.assertGreater(len(right), 3)

    def test_the_least_price_of_its_own_ahead_of_the_least_way(self):
        # Kind 1 by a rule for 3 or by a move for 1 comes to 3; only the move is best.
        for rules, moves, way in [
            (((0, (), 1, 3), (0, (), 0, 2)), ((0, 1, 1),), ("move", 0)),
            (((0, (), 0, 2), (0, (), 2, 2)), ((0, 2, 1), (2, 1, 1), (0, 1, 3)), None),
        ]:
            book = Book((0,), 3, rules, moves)
            if way is not None:
                self.assertEqual(best(book, LEAF)[(0, 1)], way)
            right = [choice for choice in all_choices(book, LEAF, 99) if is_best(book, LEAF, choice)]
            self.assertEqual(best(book, LEAF), least_ways(right))

    def test_moves_of_one_price_that_lead_about(self):
        for book in BOOKS_OF_ONE_PRICE:
            for web in [LEAF, Web(((0, ()), (0, ())))]:
                right = [choice for choice in all_choices(book, web, 10**5) if is_best(book, web, choice)]
                self.assertEqual(best(book, web), least_ways(right))
        self.assertIsNone(best(BOOKS_OF_ONE_PRICE[0], LEAF))
        self.assertIsNone(best(BOOKS_OF_ONE_PRICE[1], LEAF))
        spread = {(0, 0): ("rule", 0), (0, 1): ("move", 0), (0, 2): ("move", 2)}
        self.assertEqual(best(BOOKS_OF_ONE_PRICE[2], LEAF), spread)

    def test_against_all_choices(self):
        many = {True: 0, False: 0}
        for seed in range(300):
            book = random_book(seed)
            web = random_web(seed, book, 4)
            tried = all_choices(book, web, 100)
            if tried:
                right = [choice for choice in tried if is_best(book, web, choice)]
                self.assertEqual(best(book, web), least_ways(right))
                many[right == []] += 1
        self.assertGreater(min(many.values()), 20)

    def test_against_the_cheapest_plans(self):
        for seed in range(60):
            book = random_book(seed)
            web = random_web(seed, book, 4)
            choice = best(book, web)
            if choice is not None and len(choice) < 6:
                fences = fences_of(book, web, choice)
                for wishes in all_lots(choice):
                    least = cheapest(book, web, wishes)[0]
                    self.assertEqual(cost(book, web, choice, wishes), least)
                    self.assertEqual(floor(book, web, fences, wishes), least)

    def test_webs_of_12_values(self):
        many = {True: 0, False: 0}
        for seed in range(150):
            book = random_book(seed)
            web = random_web(seed, book, 12)
            found = best(book, web)
            self.assertEqual(found, least_ways(all_best(book, web)))
            many[found is None] += 1
        self.assertGreater(min(many.values()), 20)

    def test_large_webs(self):
        self.assertEqual(best(DOUBLING, DOUBLES), own(DOUBLING, DOUBLES))
        moves = tuple((source, kind, 2) for source in range(5) for kind in range(5) if source != kind)
        rules = ((0, (), 0, 1),) + tuple((1, (a, b), 0, 1 + a + b) for a in range(5) for b in range(5))
        book = Book((0, 2), 5, rules, moves)
        web = Web(((0, ()), (0, ())) + tuple((1, (k - 2, k - 1)) for k in range(2, 200)))
        found = best(book, web)
        self.assertEqual(len(found), 1000)
        self.assertIs(is_best(book, web, found), True)

    def test_a_new_dict(self):
        best(MOVING, SHARED).clear()
        self.assertEqual(best(MOVING, SHARED), own(MOVING, SHARED))

    def test_no_web(self):
        for odd in NO_WEBS:
            with self.assertRaises(NoWeb):
                best(CHAIN, odd)


class StandInsTest(unittest.TestCase):
    def test_same_needs(self):
        rules = ((0, (), 0, 1), (0, (), 1, 1), (1, (0, 1), 0, 2), (1, (1, 0), 0, 2), (1, (0, 1), 1, 1))
        book = Book((0, 2), 2, rules, ())
        for way, other in [(("rule", 2), ("rule", 3)), (("rule", 3), ("rule", 2))]:
            choice = {(0, 0): ("rule", 0), (0, 1): ("rule", 1), (1, 0): way, (1, 1): ("rule", 4)}
            self.assertEqual(stand_ins(book, PAIR, choice), {(1, 0): [other]})

    def test_needs_that_come_to_the_same(self):
        self.assertEqual(stand_ins(ALIKE, PAIR, ALIKE_BEST), {(1, 0): [("rule", 2), ("rule", 3)]})
        other = {**ALIKE_BEST, (1, 0): ("rule", 3)}
        self.assertEqual(stand_ins(ALIKE, PAIR, other), {(1, 0): [("rule", 1), ("rule", 2)]})

    def test_another_price(self):
        for last, told in [(3, {(1, 0): [("rule", 2)]}), (4, {}), (2, None)]:
            book = Book((0, 2), 2, ((0, (), 0, 1), (1, (1, 1), 0, 3), (1, (1, 0), 0, last)), ((0, 1, 1),))
            choice = {(0, 0): ("rule", 0), (0, 1): ("move", 0), (1, 0): ("rule", 1), (1, 1): ("move", 0)}
            if told is None:
                with self.assertRaises(NotBest):
                    stand_ins(book, PAIR, choice)
            else:
                self.assertEqual(stand_ins(book, PAIR, choice), told)

    def test_other_needs_of_one_price(self):
        # The rule from kind 0 and that from kind 1 have one price, and need unlike things.
        book = Book((0, 1), 2, ((0, (), 0, 1), (0, (), 1, 1), (1, (0,), 0, 3), (1, (1,), 0, 4)), ())
        web = Web(((0, ()), (1, (0,))))
        choice = {(0, 0): ("rule", 0), (0, 1): ("rule", 1), (1, 0): ("rule", 2)}
        self.assertEqual(stand_ins(book, web, choice), {})

    def test_none(self):
        self.assertEqual(stand_ins(CHAIN, EMPTY_WEB, {}), {})
        self.assertEqual(stand_ins(chain(4), STEPS, STEPS_OWN), {})

    def test_the_third_fact(self):
        many = 0
        for seed in range(100):
            book = alike_book(seed)
            web = Web(((0, ()), (1, (0, 0)), (1, (seed % 2, 1))))
            right = all_best(book, web)
            self.assertEqual(best(book, web), least_ways(right))
            for choice in right:
                told = stand_ins(book, web, choice)
                found = {}
                for thing in choice:
                    found[thing] = sorted({other[thing] for other in right} - {choice[thing]})
                self.assertEqual(told, {thing: others for thing, others in found.items() if others})
                many += len(told)
                for other in right:
                    for thing in choice:
                        self.assertEqual(way_price(book, choice[thing]), way_price(book, other[thing]))
                        self.assertEqual(all_needed(book, web, choice, thing), all_needed(book, web, other, thing))
        self.assertGreater(many, 5)

    def test_all_at_once_are_best_too(self):
        web = Web(PAIR.rows + ((1, (1, 1)), (1, (1, 0))))
        choice = best(ALIKE, web)
        told = stand_ins(ALIKE, web, choice)
        self.assertGreater(len(told), 1)
        swapped = {**choice, **{thing: others[-1] for thing, others in told.items()}}
        self.assertIs(is_best(ALIKE, web, swapped), True)
        self.assertIs(is_fences(ALIKE, web, fences_of(ALIKE, web, swapped)), True)

    def test_errors_in_their_order(self):
        for odd in NO_WEBS:
            with self.assertRaises(NoWeb):
                stand_ins(CHAIN, odd, None)
        for odd in NO_CHOICES:
            with self.assertRaises(NoChoice):
                stand_ins(CHAIN, STEPS, odd)
        with self.assertRaises(NoChoice):
            stand_ins(ROUND, ROUND_WEB, ROUND_WAYS)
        with self.assertRaises(NotBest):
            stand_ins(CHAIN, STEPS, STEPS_OWN)
        for odd in strange_objects():
            if odd is not CHAIN:
                with self.assertRaises(NoWeb):
                    stand_ins(odd, STEPS, STEPS_OWN)

    def test_new_dicts_and_lists(self):
        stand_ins(ALIKE, PAIR, ALIKE_BEST)[(1, 0)].clear()
        self.assertEqual(stand_ins(ALIKE, PAIR, ALIKE_BEST), {(1, 0): [("rule", 2), ("rule", 3)]})


if __name__ == "__main__":
    unittest.main()
